/- Contracts of lead, One of layer 1. -/
import Derived.Test.YtbigbkplhlmbmaaUtfB
namespace Go.Proofs.Ytbigbkplhlmbmaa
set_option linter.unusedVariables false
open Go.RowKit

/-- how many bytes begin with c, and the bounds of the second one -/
def leadF (c : Int) : Int × Int × Int :=
  if c < 128 then (1, 0, 0) else if c < 194 then (0, 0, 0) else if c < 224 then (2, 128, 191) else if c = 224 then (3, 160, 191) else if c = 237 then (3, 128, 159)
  else if c < 240 then (3, 128, 191) else if c = 240 then (4, 144, 191) else if c < 244 then (4, 128, 191) else if c = 244 then (4, 128, 143) else (0, 0, 0)
/-- the bytes behind the first one: need more of them are wanted -/
def contF : Nat → List Int → Int → Int → Int → Int → Int × Int × Int
  | 0, _, k, s, _, _ => (s, k, 0)
  | _ + 1, [], k, _, _, _ => (0, k, 2)
  | need + 1, c :: r, k, s, low, high => if c < low ∨ high < c then (0, k, 1) else contF need r (k + 1) (s * 64 + c % 64) 128 191
/-- what bytes begin with: a scalar, how many bytes, the error -/
def oneF : List Int → Int × Int × Int
  | [] => (0, 0, 2)
  | c :: r => if (leadF c).1 = 0 then (0, 1, 1) else if (leadF c).1 = 1 then (c, 1, 0)
    else contF ((leadF c).1.toNat - 1) r 1 (c % (if (leadF c).1 = 2 then 32 else if (leadF c).1 = 3 then 16 else 8)) (leadF c).2.1 (leadF c).2.2

theorem ret3 {k1 k2 k3 : IntKind} {a b c a' b' c' : Int} (h : (a', b', c') = (a, b, c)) : Ending.returned (.tuple #[.int k1 a, .int k2 b, .int k3 c]) = .returned (.tuple #[.int k1 a', .int k2 b', .int k3 c']) := by
  injection h with h1 h; injection h with h2 h3; rw [h1, h2, h3]

theorem leadF_cases (c : Int) (h0 : 0 ≤ c) (h1 : c ≤ 255) : (c < 128) ∨ (128 ≤ c ∧ c < 194) ∨ (194 ≤ c ∧ c < 224) ∨ c = 224 ∨ (225 ≤ c ∧ c < 237) ∨ c = 237 ∨ (238 ≤ c ∧ c < 240) ∨ c = 240 ∨ (241 ≤ c ∧ c < 244) ∨ c = 244 ∨ 245 ≤ c := by omega

set_option maxHeartbeats 400000 in
theorem leadU (c : Int) (w : World) (h0 : 0 ≤ c) (h1 : c ≤ 255) :
    Calls Try.prog 28 #[.int .u8 c] w fun e w' => e = .returned (.tuple #[.int .i64 (leadF c).1, .int .u8 (leadF c).2.1, .int .u8 (leadF c).2.2]) ∧ w = w' := by
  rcases leadF_cases c h0 h1 with h | h | h | h | h | h | h | h | h | h | h
  all_goals try (obtain ⟨h, h'⟩ := h)
  all_goals try subst h
  all_goals
    go_enter Try.func28, Try.ntmps28
    go_wp2
    go_ret3
    exact ⟨ret3 (by unfold leadF; (repeat' split) <;> first | rfl | omega), rfl⟩

/-- One's answer; the world has at most drawn -/
def RetOne (zs : List Int) (w : World) (e : Ending) (w' : World) : Prop := e = .returned (.tuple #[.int .i64 (oneF zs).1, .int .i64 (oneF zs).2.1, .int .i64 (oneF zs).2.2]) ∧ ∃ n, w' = w.drewN n

set_option maxHeartbeats 400000 in
theorem one_nil (A : Option Addr) (cap : Nat) (w : World) :
    Calls Try.prog 15 #[.slice A 0 cap] w (RetOne [] w) := by
  go_enter Try.func15, Try.ntmps15
  go_wp2
  refine wp_scope_fwd 0 rfl ?_
  go_wp2
  go_step3
  refine ⟨rfl, ?_⟩
  go_wp2
  simp only [Exit.jump]
  go_ret3
  exact ⟨rfl, 0, rfl⟩

theorem leadF_fact (c : Int) (h0 : 0 ≤ c) (h1 : c ≤ 255) : (leadF c).1 = 0 ∨ (leadF c).1 = 1 ∧ c < 128 ∨
    (128 ≤ (leadF c).2.1 ∧ (leadF c).2.2 ≤ 191 ∧ ((leadF c).1 = 2 ∧ 194 ≤ c ∧ c < 224 ∨ (leadF c).1 = 3 ∧ 224 ≤ c ∧ c < 240 ∨ (leadF c).1 = 4 ∧ 240 ≤ c ∧ c < 245)) := by
  unfold leadF
  (repeat' split) <;> simp <;> omega

set_option maxHeartbeats 400000 in
theorem one_some0 (b off : Nat) (cap : Nat) (zs : List Int) (w : World) (c : Int) (r : List Int) (hz : zs = c :: r)
    (hc0 : w.cell? ⟨b, off, none⟩ = some (.int .u8 c)) (hlen : 0 < zs.length) (hl : zs.length ≤ 140737488355300) (hc : zs.length ≤ cap) (h0 : 0 ≤ c) (h1 : c ≤ 255) (sz lo hi : Int) (hL : leadF c = (sz, lo, hi)) (hs : sz = 0) :
    Calls Try.prog 15 #[.slice (some ⟨b, off, none⟩) zs.length cap] w (RetOne zs w) := by
  have hlead := leadU c w h0 h1
  rw [hL] at hlead
  dsimp only at hlead
  have HL := Lib.hid hlead
  have hne : ((zs.length : Int) == 0) = false := beq_eq_false_iff_ne.2 (by omega)
  have hfin : Hid (oneF zs = (0, 1, 1)) := by rw [hz]; show (if _ then _ else _) = _; rw [hL, hs]; rfl
  clear hz hlead hL
  subst hs
  go_enter Try.func15, Try.ntmps15
  go_wp2
  refine wp_scope_fwd 0 rfl ?_
  go_wp2_with (go_at_call 28; refine HL.out.mono ?_; rintro e w' ⟨rfl, rfl⟩)
  go_step3
  refine ⟨rfl, ?_⟩
  go_wp2
  simp only [Exit.jump]
  go_ret3
  exact ⟨ret3 hfin.out, 0, rfl⟩

set_option maxHeartbeats 400000 in
theorem one_some1 (b off : Nat) (cap : Nat) (zs : List Int) (w : World) (c : Int) (r : List Int) (hz : zs = c :: r)
    (hc0 : w.cell? ⟨b, off, none⟩ = some (.int .u8 c)) (hlen : 0 < zs.length) (hl : zs.length ≤ 140737488355300) (hc : zs.length ≤ cap) (h0 : 0 ≤ c) (h1 : c ≤ 255) (sz lo hi : Int) (hL : leadF c = (sz, lo, hi)) (hs : sz = 1) :
    Calls Try.prog 15 #[.slice (some ⟨b, off, none⟩) zs.length cap] w (RetOne zs w) := by
  have hlead := leadU c w h0 h1
  rw [hL] at hlead
  dsimp only at hlead
  have HL := Lib.hid hlead
  have hne : ((zs.length : Int) == 0) = false := beq_eq_false_iff_ne.2 (by omega)
  have hfin : Hid (oneF zs = (c, 1, 0)) := by rw [hz]; show (if _ then _ else _) = _; rw [hL, hs]; rfl
  clear hz hlead hL
  subst hs
  go_enter Try.func15, Try.ntmps15
  go_wp2
  refine wp_scope_fwd 0 rfl ?_
  go_wp2_with (go_at_call 28; refine HL.out.mono ?_; rintro e w' ⟨rfl, rfl⟩)
  simp only [Exit.jump]
  go_ret3
  exact ⟨ret3 hfin.out, 0, rfl⟩

end Go.Proofs.Ytbigbkplhlmbmaa
