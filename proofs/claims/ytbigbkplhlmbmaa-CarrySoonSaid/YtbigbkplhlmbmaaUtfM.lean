/- Layer 1, plain: a scalar's bytes are read as that scalar. -/
import Derived.Test.YtbigbkplhlmbmaaUtfC
namespace Go.Proofs.Ytbigbkplhlmbmaa
set_option linter.unusedVariables false

theorem encL_sz (s : Int) (h : scB s = true) : ((encL s).length : Int) = szI s := by
  unfold szI encL
  rw [h]
  simp only [Bool.true_eq_false, if_false]
  (repeat' split) <;> simp_all

theorem leadF_2 (c : Int) (h1 : 194 ≤ c) (h2 : c < 224) : leadF c = (2, 128, 191) := by
  unfold leadF; rw [if_neg (by omega), if_neg (by omega), if_pos h2]
theorem leadF_3 (c : Int) (h1 : 224 ≤ c) (h2 : c < 240) : leadF c = (3, if c = 224 then 160 else 128, if c = 237 then 159 else 191) := by
  unfold leadF; rw [if_neg (by omega), if_neg (by omega), if_neg (by omega)]
  by_cases a : c = 224
  · subst a; rfl
  · rw [if_neg a, if_neg a]
    by_cases b : c = 237
    · subst b; rfl
    · rw [if_neg b, if_neg b, if_pos h2]
theorem leadF_4 (c : Int) (h1 : 240 ≤ c) (h2 : c < 245) : leadF c = (4, if c = 240 then 144 else 128, if c = 244 then 143 else 191) := by
  unfold leadF; rw [if_neg (by omega), if_neg (by omega), if_neg (by omega), if_neg (by omega), if_neg (by omega), if_neg (by omega)]
  by_cases a : c = 240
  · subst a; rfl
  · rw [if_neg a, if_neg a]
    by_cases b : c = 244
    · subst b; rfl
    · rw [if_pos (by omega), if_neg b]

theorem contF_yes (need : Nat) (c : Int) (r : List Int) (k s low high : Int) (h : low ≤ c ∧ c ≤ high) : contF (need + 1) (c :: r) k s low high = contF need r (k + 1) (s * 64 + c % 64) 128 191 := by
  show (if _ then _ else _) = _
  rw [if_neg (by omega)]

theorem one_enc (s : Int) (h : scB s = true) (r : List Int) : oneF (encL s ++ r) = (s, szI s, 0) := by
  have hs := scB_t.1 h
  unfold szI
  rw [h]
  simp only [Bool.true_eq_false, if_false]
  unfold encL
  by_cases h1 : s < 128
  · rw [if_pos h1, if_pos h1]
    have : leadF s = (1, 0, 0) := by unfold leadF; rw [if_pos h1]
    show (if (leadF s).1 = 0 then _ else if (leadF s).1 = 1 then _ else _) = _
    rw [this]; rfl
  rw [if_neg h1, if_neg h1]
  by_cases h2 : s < 2048
  · rw [if_pos h2, if_pos h2]
    show (if (leadF (192 + s / 64)).1 = 0 then _ else if (leadF (192 + s / 64)).1 = 1 then _ else contF ((leadF (192 + s / 64)).1.toNat - 1) ([128 + s % 64] ++ r) 1 ((192 + s / 64) % (if (leadF (192 + s / 64)).1 = 2 then 32 else if (leadF (192 + s / 64)).1 = 3 then 16 else 8)) (leadF (192 + s / 64)).2.1 (leadF (192 + s / 64)).2.2) = _
    rw [leadF_2 (192 + s / 64) (by omega) (by omega)]
    show contF 1 ((128 + s % 64) :: r) 1 ((192 + s / 64) % 32) 128 191 = _
    rw [contF_yes 0 _ _ _ _ _ _ (by omega)]
    show (_, _, _) = _
    congr 1
    omega
  rw [if_neg h2, if_neg h2]
  by_cases h3 : s < 65536
  · rw [if_pos h3, if_pos h3]
    show (if (leadF (224 + s / 4096)).1 = 0 then _ else if (leadF (224 + s / 4096)).1 = 1 then _ else contF ((leadF (224 + s / 4096)).1.toNat - 1) ([128 + s / 64 % 64, 128 + s % 64] ++ r) 1 ((224 + s / 4096) % (if (leadF (224 + s / 4096)).1 = 2 then 32 else if (leadF (224 + s / 4096)).1 = 3 then 16 else 8)) (leadF (224 + s / 4096)).2.1 (leadF (224 + s / 4096)).2.2) = _
    rw [leadF_3 (224 + s / 4096) (by omega) (by omega)]
    show contF 2 ((128 + s / 64 % 64) :: (128 + s % 64) :: r) 1 ((224 + s / 4096) % 16) (if 224 + s / 4096 = 224 then 160 else 128) (if 224 + s / 4096 = 237 then 159 else 191) = _
    rw [contF_yes 1 _ _ _ _ _ _ (by split <;> split <;> omega), contF_yes 0 _ _ _ _ _ _ (by omega)]
    show (_, _, _) = _
    congr 1
    omega
  · rw [if_neg h3, if_neg h3]
    show (if (leadF (240 + s / 262144)).1 = 0 then _ else if (leadF (240 + s / 262144)).1 = 1 then _ else contF ((leadF (240 + s / 262144)).1.toNat - 1) ([128 + s / 4096 % 64, 128 + s / 64 % 64, 128 + s % 64] ++ r) 1 ((240 + s / 262144) % (if (leadF (240 + s / 262144)).1 = 2 then 32 else if (leadF (240 + s / 262144)).1 = 3 then 16 else 8)) (leadF (240 + s / 262144)).2.1 (leadF (240 + s / 262144)).2.2) = _
    rw [leadF_4 (240 + s / 262144) (by omega) (by omega)]
    show contF 3 ((128 + s / 4096 % 64) :: (128 + s / 64 % 64) :: (128 + s % 64) :: r) 1 ((240 + s / 262144) % 8) (if 240 + s / 262144 = 240 then 144 else 128) (if 240 + s / 262144 = 244 then 143 else 191) = _
    rw [contF_yes 2 _ _ _ _ _ _ (by split <;> split <;> omega), contF_yes 1 _ _ _ _ _ _ (by omega), contF_yes 0 _ _ _ _ _ _ (by omega)]
    show (_, _, _) = _
    congr 1
    omega

theorem encL_inj {a b : Int} (ha : scB a = true) (hb : scB b = true) (h : encL a = encL b) : a = b := by
  have h1 := one_enc a ha []
  have h2 := one_enc b hb []
  rw [h, h2] at h1
  injection h1 with h1; exact h1.symm
theorem encL_bytes (s : Int) (h : scB s = true) : ∀ z ∈ encL s, 0 ≤ z ∧ z ≤ 255 := by
  have hs := scB_t.1 h
  unfold encL
  (repeat' split) <;> simp <;> omega
theorem fixS_sc (s : Int) : scB (fixS s) = true := by
  unfold fixS; split
  · assumption
  · rfl
theorem encL_pos (s : Int) : 0 < (encL s).length := by unfold encL; (repeat' split) <;> simp
end Go.Proofs.Ytbigbkplhlmbmaa
