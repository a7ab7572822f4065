/- Texts of this seat, one behind the other: UtfS, UtfA, UtfB, UtfC, UtfD, UtfEl, UtfM, UtfAll, UtfBl, UtfBytes. -/
import Derived.Test.YtncpokioagpclaaGreatDoorProg
import Derived.Test.YtncpokioagpclaaGreatDoorLib
namespace Go.Proofs.YtncpokioagpclaaGreatDoor
set_option linter.unusedVariables false
open Go.RowKit

/-- is s a scalar? -/
def scB (s : Int) : Bool := decide (0 ≤ s ∧ s < 55296 ∨ 57344 ≤ s ∧ s < 1114112)
theorem scB_t {s : Int} : scB s = true ↔ (0 ≤ s ∧ s < 55296 ∨ 57344 ≤ s ∧ s < 1114112) := by simp [scB]
theorem scB_f {s : Int} : scB s = false ↔ ¬ (0 ≤ s ∧ s < 55296 ∨ 57344 ≤ s ∧ s < 1114112) := by simp only [scB, decide_eq_false_iff_not]


set_option maxHeartbeats 400000 in
theorem scalarU (s : Int) (w : World) :
    Calls Tryz.prog 99 #[.int .i64 s] w fun e w' => e = .returned (.bool (scB s)) ∧ w = w' := by
  by_cases h1 : 0 ≤ s <;> by_cases h2 : s < 55296 <;> by_cases h3 : 57343 < s <;> by_cases h4 : s ≤ 1114111
  all_goals
    go_enter Tryz.func99, Tryz.ntmps99
    go_wp2
    go_ret
    first | exact ⟨ret_bool (scB_t.2 (by omega)), rfl⟩ | exact ⟨ret_bool (scB_f.2 (by omega)), rfl⟩
end Go.Proofs.YtncpokioagpclaaGreatDoor
namespace Go.Proofs.YtncpokioagpclaaGreatDoor
set_option linter.unusedVariables false
open Go.RowKit

set_option maxHeartbeats 400000 in
theorem scalarL (s : Int) (w : World) :
    Calls Tryz.prog 116 #[.int .i64 s] w fun e w' => e = .returned (.bool (scB s)) ∧ w = w' := by
  by_cases h1 : s ≥ 0 <;> by_cases h2 : s < 1114112 <;> by_cases h3 : s < 55296 <;> by_cases h4 : s ≥ 57344
  all_goals
    go_enter Tryz.func116, Tryz.ntmps116
    go_wp2
    go_ret
    first | exact ⟨ret_bool (scB_t.2 (by omega)), rfl⟩ | exact ⟨ret_bool (scB_f.2 (by omega)), rfl⟩

/-- how many bytes a scalar has -/
def szI (s : Int) : Int := if scB s = false then 0 else if s < 128 then 1 else if s < 2048 then 2 else if s < 65536 then 3 else 4

set_option maxHeartbeats 400000 in
theorem sizeU (s : Int) (w : World) :
    Calls Tryz.prog 100 #[.int .i64 s] w fun e w' => e = .returned (.int .i64 (szI s)) ∧ w = w' := by
  cases hb : scB s
  all_goals
    go_enter Tryz.func100, Tryz.ntmps100
    go_wp2_with (go_at_call 99; refine (scalarU _ _).mono ?_; rintro e w' ⟨rfl, rfl⟩)
    all_goals go_ret
    all_goals exact ⟨ret_int (by unfold szI; rw [hb]; first | rfl | (simp only [Bool.true_eq_false, if_false]; (repeat' split) <;> first | rfl | omega)), rfl⟩

set_option maxHeartbeats 400000 in
theorem nextU (s : Int) (w : World) (h0 : 0 ≤ s) (h1 : s < 2097152) :
    Calls Tryz.prog 101 #[.int .i64 s] w fun e w' => e = .returned (.int .u8 (128 + s % 64)) ∧ w = w' := by
  go_enter Tryz.func101, Tryz.ntmps101
  go_wp2
  go_ret
  exact ⟨ret_int (by rw [i64_and63 s (by omega) (by omega), i64_join 7 128 (s % 64) (by omega) (by omega) (by omega) (by omega) rfl (by omega)]; omega), rfl⟩

end Go.Proofs.YtncpokioagpclaaGreatDoor
namespace Go.Proofs.YtncpokioagpclaaGreatDoor
set_option linter.unusedVariables false
open Go.RowKit

/-- a scalar's bytes -/
def encL (s : Int) : List Int :=
  if s < 128 then [s] else if s < 2048 then [192 + s / 64, 128 + s % 64] else if s < 65536 then [224 + s / 4096, 128 + s / 64 % 64, 128 + s % 64]
  else [240 + s / 262144, 128 + s / 4096 % 64, 128 + s / 64 % 64, 128 + s % 64]
/-- what is no scalar counts as fffd -/
def fixS (s : Int) : Int := if scB s = true then s else 65533

theorem info5 : (Tryz.prog.info? 5).map (fun i => (i.zero, i.size, i.bytes)) = some (some (.int .u8 0), 1, 1) := by kernel_rfl

theorem encL_len (s : Int) : (encL s).length ≤ 4 := by unfold encL; (repeat' split) <;> simp

/-- what an append of the bytes bs behind zs leaves, seen from the call's world -/
theorem push_end {w w1 : World} {base : Nat} {v v1 : Value} {zs bs cs : List Int} {o : Obj} {n m : Nat} (hn : n = zs.length) (hm : m = bs.length) (he : cs = bs) (h1 : w1.ownsRow base 5 1 v1 (n + m) (zs.map (Value.int .u8) ++ bs.map (Value.int .u8)))
    (hg : (w.alloc o).grownBy w1 v.ownBlock) : RetI .u8 5 base v.ownBlock (zs ++ cs) w (.returned v1) w1 := by
  subst hn hm he
  refine ⟨v1, rfl, ?_, (World.grownBy_alloc w o _).trans hg⟩
  unfold OwnI
  rw [List.map_append, List.length_append]
  exact h1

set_option maxHeartbeats 400000 in
theorem push1 (base : Nat) (v : Value) (zs : List Int) (s : Int) (w : World) (ho : OwnI .u8 5 w base v zs) (hl : zs.length ≤ 140737488355320) (hb : base ≤ w.heap.size) (h0 : 0 ≤ s) (h1 : s < 128) :
    Calls Tryz.prog 68 #[v, .int .i64 s] w (RetI .u8 5 base v.ownBlock (zs ++ encL s) w) := by
  obtain ⟨i0, hi, hz0, hz1, hz2⟩ := info_parts info5
  have hsc : scB s = true := scB_t.2 (by omega)
  have hsz : szI s = 1 := by unfold szI; rw [hsc]; simp only [Bool.true_eq_false, if_false]; rw [if_pos (by omega)]
  have hen : Hid (encL s = [s]) := by unfold encL; rw [if_pos (by omega)]; exact rfl
  go_enter Tryz.func68, Tryz.ntmps68
  go_wp2_with (first
    | (go_at_call 99; refine (scalarU _ _).mono ?_; rintro e w' ⟨rfl, rfl⟩)
    | (go_at_call 100; refine (sizeU _ _).mono ?_; rintro e w' ⟨rfl, rfl⟩)
    | (go_at_call 101; refine (nextU _ _ (by omega) (by omega)).mono ?_; rintro e w' ⟨rfl, rfl⟩)
    | (at_builtin; refine wpList_app _ rfl _ _ 22 rfl base 5 i0 (.int .u8 0) 1 1 Tryz.underlying22 hi hz0 hz1 hz2 rfl (by decide) v _ _ rfl (World.ownsRow.alloc ho _) (w.heap.size + 1) _ 1 1 (([s] : List Int).map (Value.int .u8)) rfl rfl ?c1 ?c2 ?c3 ?c4 ?c5 ?_))
  case c1 => exact Rd_new w _ _
  case c2 => exact ints_one _ _
  case c3 => simp only [maxLen]; omega
  case c4 => omega
  case c5 => simp; omega
  intro v1 w1 hown1 hg1
  go_wp2
  go_ret
  exact push_end rfl rfl hen.out hown1 hg1

set_option maxHeartbeats 400000 in
theorem push2 (base : Nat) (v : Value) (zs : List Int) (s : Int) (w : World) (ho : OwnI .u8 5 w base v zs) (hl : zs.length ≤ 140737488355320) (hb : base ≤ w.heap.size) (h0 : 128 ≤ s) (h1 : s < 2048) :
    Calls Tryz.prog 68 #[v, .int .i64 s] w (RetI .u8 5 base v.ownBlock (zs ++ encL s) w) := by
  obtain ⟨i0, hi, hz0, hz1, hz2⟩ := info_parts info5
  have hsc : scB s = true := scB_t.2 (by omega)
  have hsz : szI s = 2 := by unfold szI; rw [hsc]; simp only [Bool.true_eq_false, if_false]; rw [if_neg (by omega), if_pos (by omega)]
  have hen : Hid (encL s = [192 + s / 64, 128 + s % 64]) := by unfold encL; rw [if_neg (by omega), if_pos (by omega)]; exact rfl
  have hor : bits .or .i64 192 (s / 64) = 192 + s / 64 := i64_join 5 _ _ (by omega) (by omega) (by omega) (by omega) rfl (by omega)
  have hwr : (192 + s / 64) % 256 = 192 + s / 64 := by omega
  go_enter Tryz.func68, Tryz.ntmps68
  go_wp2_with (first
    | (go_at_call 99; refine (scalarU _ _).mono ?_; rintro e w' ⟨rfl, rfl⟩)
    | (go_at_call 100; refine (sizeU _ _).mono ?_; rintro e w' ⟨rfl, rfl⟩)
    | (go_at_call 101; refine (nextU _ _ (by omega) (by omega)).mono ?_; rintro e w' ⟨rfl, rfl⟩)
    | (at_builtin; refine wpList_app _ rfl _ _ 22 rfl base 5 i0 (.int .u8 0) 1 1 Tryz.underlying22 hi hz0 hz1 hz2 rfl (by decide) v _ _ rfl (World.ownsRow.alloc ho _) (w.heap.size + 1) _ 2 2 (([192 + s / 64, 128 + s % 64] : List Int).map (Value.int .u8)) rfl rfl ?c1 ?c2 ?c3 ?c4 ?c5 ?_))
  case c1 => exact Rd_new w _ _
  case c2 => exact ints_one _ _
  case c3 => simp only [maxLen]; omega
  case c4 => omega
  case c5 => simp; omega
  intro v1 w1 hown1 hg1
  go_wp2
  go_ret
  exact push_end rfl rfl hen.out hown1 hg1

set_option maxHeartbeats 400000 in
theorem push3 (base : Nat) (v : Value) (zs : List Int) (s : Int) (w : World) (ho : OwnI .u8 5 w base v zs) (hl : zs.length ≤ 140737488355320) (hb : base ≤ w.heap.size) (h0 : 2048 ≤ s) (h1 : s < 65536) (h2 : scB s = true) :
    Calls Tryz.prog 68 #[v, .int .i64 s] w (RetI .u8 5 base v.ownBlock (zs ++ encL s) w) := by
  obtain ⟨i0, hi, hz0, hz1, hz2⟩ := info_parts info5
  have hsc := h2
  have hsz : szI s = 3 := by unfold szI; rw [hsc]; simp only [Bool.true_eq_false, if_false]; rw [if_neg (by omega), if_neg (by omega), if_pos (by omega)]
  have hen : Hid (encL s = [224 + s / 4096, 128 + s / 64 % 64, 128 + s % 64]) := by unfold encL; rw [if_neg (by omega), if_neg (by omega), if_pos (by omega)]; exact rfl
  have hor : bits .or .i64 224 (s / 4096) = 224 + s / 4096 := i64_join 4 _ _ (by omega) (by omega) (by omega) (by omega) rfl (by omega)
  have hwr : (224 + s / 4096) % 256 = 224 + s / 4096 := by omega
  go_enter Tryz.func68, Tryz.ntmps68
  go_wp2_with (first
    | (go_at_call 99; refine (scalarU _ _).mono ?_; rintro e w' ⟨rfl, rfl⟩)
    | (go_at_call 100; refine (sizeU _ _).mono ?_; rintro e w' ⟨rfl, rfl⟩)
    | (go_at_call 101; refine (nextU _ _ (by omega) (by omega)).mono ?_; rintro e w' ⟨rfl, rfl⟩)
    | (at_builtin; refine wpList_app _ rfl _ _ 22 rfl base 5 i0 (.int .u8 0) 1 1 Tryz.underlying22 hi hz0 hz1 hz2 rfl (by decide) v _ _ rfl (World.ownsRow.alloc ho _) (w.heap.size + 1) _ 3 3 (([224 + s / 4096, 128 + s / 64 % 64, 128 + s % 64] : List Int).map (Value.int .u8)) rfl rfl ?c1 ?c2 ?c3 ?c4 ?c5 ?_))
  case c1 => exact Rd_new w _ _
  case c2 => exact ints_one _ _
  case c3 => simp only [maxLen]; omega
  case c4 => omega
  case c5 => simp; omega
  intro v1 w1 hown1 hg1
  go_wp2
  go_ret
  exact push_end rfl rfl hen.out hown1 hg1

set_option maxHeartbeats 400000 in
theorem push4 (base : Nat) (v : Value) (zs : List Int) (s : Int) (w : World) (ho : OwnI .u8 5 w base v zs) (hl : zs.length ≤ 140737488355320) (hb : base ≤ w.heap.size) (h0 : 65536 ≤ s) (h1 : s < 1114112) (h2 : scB s = true) :
    Calls Tryz.prog 68 #[v, .int .i64 s] w (RetI .u8 5 base v.ownBlock (zs ++ encL s) w) := by
  obtain ⟨i0, hi, hz0, hz1, hz2⟩ := info_parts info5
  have hsc := h2
  have hsz : szI s = 4 := by unfold szI; rw [hsc]; simp only [Bool.true_eq_false, if_false]; rw [if_neg (by omega), if_neg (by omega), if_neg (by omega)]
  have hen : Hid (encL s = [240 + s / 262144, 128 + s / 4096 % 64, 128 + s / 64 % 64, 128 + s % 64]) := by unfold encL; rw [if_neg (by omega), if_neg (by omega), if_neg (by omega)]; exact rfl
  have hor : bits .or .i64 240 (s / 262144) = 240 + s / 262144 := i64_join 3 _ _ (by omega) (by omega) (by omega) (by omega) rfl (by omega)
  have hwr : (240 + s / 262144) % 256 = 240 + s / 262144 := by omega
  go_enter Tryz.func68, Tryz.ntmps68
  go_wp2_with (first
    | (go_at_call 99; refine (scalarU _ _).mono ?_; rintro e w' ⟨rfl, rfl⟩)
    | (go_at_call 100; refine (sizeU _ _).mono ?_; rintro e w' ⟨rfl, rfl⟩)
    | (go_at_call 101; refine (nextU _ _ (by omega) (by omega)).mono ?_; rintro e w' ⟨rfl, rfl⟩)
    | (at_builtin; refine wpList_app _ rfl _ _ 22 rfl base 5 i0 (.int .u8 0) 1 1 Tryz.underlying22 hi hz0 hz1 hz2 rfl (by decide) v _ _ rfl (World.ownsRow.alloc ho _) (w.heap.size + 1) _ 4 4 (([240 + s / 262144, 128 + s / 4096 % 64, 128 + s / 64 % 64, 128 + s % 64] : List Int).map (Value.int .u8)) rfl rfl ?c1 ?c2 ?c3 ?c4 ?c5 ?_))
  case c1 => exact Rd_new w _ _
  case c2 => exact ints_one _ _
  case c3 => simp only [maxLen]; omega
  case c4 => omega
  case c5 => simp; omega
  intro v1 w1 hown1 hg1
  go_wp2
  go_ret
  exact push_end rfl rfl hen.out hown1 hg1

set_option maxHeartbeats 400000 in
theorem push0 (base : Nat) (v : Value) (zs : List Int) (s : Int) (w : World) (ho : OwnI .u8 5 w base v zs) (hl : zs.length ≤ 140737488355320) (hb : base ≤ w.heap.size) (hsc : scB s = false) :
    Calls Tryz.prog 68 #[v, .int .i64 s] w (RetI .u8 5 base v.ownBlock (zs ++ encL 65533) w) := by
  obtain ⟨i0, hi, hz0, hz1, hz2⟩ := info_parts info5
  have hsz : szI 65533 = 3 := by decide
  have hen : Hid (encL 65533 = [239, 191, 189]) := (by decide : encL 65533 = [239, 191, 189])
  have hor : bits .or .i64 224 15 = 239 := by decide
  go_enter Tryz.func68, Tryz.ntmps68
  go_wp2_with (first
    | (go_at_call 99; refine (scalarU _ _).mono ?_; rintro e w' ⟨rfl, rfl⟩)
    | (go_at_call 100; refine (sizeU _ _).mono ?_; rintro e w' ⟨rfl, rfl⟩)
    | (go_at_call 101; refine (nextU _ _ (by omega) (by omega)).mono ?_; rintro e w' ⟨rfl, rfl⟩)
    | (at_builtin; refine wpList_app _ rfl _ _ 22 rfl base 5 i0 (.int .u8 0) 1 1 Tryz.underlying22 hi hz0 hz1 hz2 rfl (by decide) v _ _ rfl (World.ownsRow.alloc ho _) (w.heap.size + 1) _ 3 3 (([239, 191, 189] : List Int).map (Value.int .u8)) rfl rfl ?c1 ?c2 ?c3 ?c4 ?c5 ?_))
  case c1 => exact Rd_new w _ _
  case c2 => exact ints_one _ _
  case c3 => simp only [maxLen]; omega
  case c4 => omega
  case c5 => simp; omega
  intro v1 w1 hown1 hg1
  go_wp2
  go_ret
  exact push_end rfl rfl hen.out hown1 hg1

theorem push_any (base : Nat) (v : Value) (zs : List Int) (s : Int) (w : World) (ho : OwnI .u8 5 w base v zs) (hl : zs.length ≤ 140737488355320) (hb : base ≤ w.heap.size) :
    Calls Tryz.prog 68 #[v, .int .i64 s] w (RetI .u8 5 base v.ownBlock (zs ++ encL (fixS s)) w) := by
  cases hs : scB s
  · have hf : fixS s = 65533 := by simp [fixS, hs]
    rw [hf]
    exact push0 base v zs s w ho hl hb hs
  · have h := scB_t.1 hs
    have hf : fixS s = s := by simp [fixS, hs]
    rw [hf]
    by_cases h1 : s < 128
    · exact push1 base v zs s w ho hl hb (by omega) h1
    by_cases h2 : s < 2048
    · exact push2 base v zs s w ho hl hb (by omega) h2
    by_cases h3 : s < 65536
    · exact push3 base v zs s w ho hl hb (by omega) h3 hs
    · exact push4 base v zs s w ho hl hb (by omega) (by omega) hs

end Go.Proofs.YtncpokioagpclaaGreatDoor
namespace Go.Proofs.YtncpokioagpclaaGreatDoor
set_option linter.unusedVariables false
open Go.RowKit

/-- how many bytes begin with c, and the bounds of the second one -/
def leadF (c : Int) : Int × Int × Int :=
  if c < 128 then (1, 0, 0) else if c < 194 then (0, 0, 0) else if c < 224 then (2, 128, 191) else if c = 224 then (3, 160, 191) else if c = 237 then (3, 128, 159)
  else if c < 240 then (3, 128, 191) else if c = 240 then (4, 144, 191) else if c < 244 then (4, 128, 191) else if c = 244 then (4, 128, 143) else (0, 0, 0)
/-- the bytes behind the first one: need more of them are wanted -/
def contF : Nat → List Int → Int → Int → Int → Int → Int × Int × Int
  | 0, _, k, s, _, _ => (s, k, 0)
  | _ + 1, [], k, _, _, _ => (0, k, 2)
  | need + 1, c :: r, k, s, low, high => if c < low ∨ high < c then (0, k, 1) else contF need r (k + 1) (s * 64 + c % 64) 128 191
/-- what bytes begin with: a scalar, how many bytes, the error -/
def oneF : List Int → Int × Int × Int
  | [] => (0, 0, 2)
  | c :: r => if (leadF c).1 = 0 then (0, 1, 1) else if (leadF c).1 = 1 then (c, 1, 0)
    else contF ((leadF c).1.toNat - 1) r 1 (c % (if (leadF c).1 = 2 then 32 else if (leadF c).1 = 3 then 16 else 8)) (leadF c).2.1 (leadF c).2.2

theorem ret3 {k1 k2 k3 : IntKind} {a b c a' b' c' : Int} (h : (a', b', c') = (a, b, c)) : Ending.returned (.tuple #[.int k1 a, .int k2 b, .int k3 c]) = .returned (.tuple #[.int k1 a', .int k2 b', .int k3 c']) := by
  injection h with h1 h; injection h with h2 h3; rw [h1, h2, h3]

theorem leadF_cases (c : Int) (h0 : 0 ≤ c) (h1 : c ≤ 255) : (c < 128) ∨ (128 ≤ c ∧ c < 194) ∨ (194 ≤ c ∧ c < 224) ∨ c = 224 ∨ (225 ≤ c ∧ c < 237) ∨ c = 237 ∨ (238 ≤ c ∧ c < 240) ∨ c = 240 ∨ (241 ≤ c ∧ c < 244) ∨ c = 244 ∨ 245 ≤ c := by omega

set_option maxHeartbeats 400000 in
theorem leadU (c : Int) (w : World) (h0 : 0 ≤ c) (h1 : c ≤ 255) :
    Calls Tryz.prog 198 #[.int .u8 c] w fun e w' => e = .returned (.tuple #[.int .i64 (leadF c).1, .int .u8 (leadF c).2.1, .int .u8 (leadF c).2.2]) ∧ w = w' := by
  rcases leadF_cases c h0 h1 with h | h | h | h | h | h | h | h | h | h | h
  all_goals try (obtain ⟨h, h'⟩ := h)
  all_goals try subst h
  all_goals
    go_enter Tryz.func198, Tryz.ntmps198
    go_wp2
    go_ret3
    exact ⟨ret3 (by unfold leadF; (repeat' split) <;> first | rfl | omega), rfl⟩

/-- One's answer; the world has at most drawn -/
def RetOne (zs : List Int) (w : World) (e : Ending) (w' : World) : Prop := e = .returned (.tuple #[.int .i64 (oneF zs).1, .int .i64 (oneF zs).2.1, .int .i64 (oneF zs).2.2]) ∧ ∃ n, w' = w.drewN n

set_option maxHeartbeats 400000 in
theorem one_nil (A : Option Addr) (cap : Nat) (w : World) :
    Calls Tryz.prog 197 #[.slice A 0 cap] w (RetOne [] w) := by
  go_enter Tryz.func197, Tryz.ntmps197
  go_wp2
  refine wp_scope_fwd 0 rfl ?_
  go_wp2
  go_step3
  refine ⟨rfl, ?_⟩
  go_wp2
  simp only [Exit.jump]
  go_ret3
  exact ⟨rfl, 0, rfl⟩

theorem leadF_fact (c : Int) (h0 : 0 ≤ c) (h1 : c ≤ 255) : (leadF c).1 = 0 ∨ (leadF c).1 = 1 ∧ c < 128 ∨
    (128 ≤ (leadF c).2.1 ∧ (leadF c).2.2 ≤ 191 ∧ ((leadF c).1 = 2 ∧ 194 ≤ c ∧ c < 224 ∨ (leadF c).1 = 3 ∧ 224 ≤ c ∧ c < 240 ∨ (leadF c).1 = 4 ∧ 240 ≤ c ∧ c < 245)) := by
  unfold leadF
  (repeat' split) <;> simp <;> omega

set_option maxHeartbeats 400000 in
theorem one_some0 (b off : Nat) (cap : Nat) (zs : List Int) (w : World) (c : Int) (r : List Int) (hz : zs = c :: r)
    (hc0 : w.cell? ⟨b, off, none⟩ = some (.int .u8 c)) (hlen : 0 < zs.length) (hl : zs.length ≤ 140737488355300) (hc : zs.length ≤ cap) (h0 : 0 ≤ c) (h1 : c ≤ 255) (sz lo hi : Int) (hL : leadF c = (sz, lo, hi)) (hs : sz = 0) :
    Calls Tryz.prog 197 #[.slice (some ⟨b, off, none⟩) zs.length cap] w (RetOne zs w) := by
  have hlead := leadU c w h0 h1
  rw [hL] at hlead
  dsimp only at hlead
  have HL := Lib.hid hlead
  have hne : ((zs.length : Int) == 0) = false := beq_eq_false_iff_ne.2 (by omega)
  have hfin : Hid (oneF zs = (0, 1, 1)) := by rw [hz]; show (if _ then _ else _) = _; rw [hL, hs]; rfl
  clear hz hlead hL
  subst hs
  go_enter Tryz.func197, Tryz.ntmps197
  go_wp2
  refine wp_scope_fwd 0 rfl ?_
  go_wp2_with (go_at_call 198; refine HL.out.mono ?_; rintro e w' ⟨rfl, rfl⟩)
  go_step3
  refine ⟨rfl, ?_⟩
  go_wp2
  simp only [Exit.jump]
  go_ret3
  exact ⟨ret3 hfin.out, 0, rfl⟩

set_option maxHeartbeats 400000 in
theorem one_some1 (b off : Nat) (cap : Nat) (zs : List Int) (w : World) (c : Int) (r : List Int) (hz : zs = c :: r)
    (hc0 : w.cell? ⟨b, off, none⟩ = some (.int .u8 c)) (hlen : 0 < zs.length) (hl : zs.length ≤ 140737488355300) (hc : zs.length ≤ cap) (h0 : 0 ≤ c) (h1 : c ≤ 255) (sz lo hi : Int) (hL : leadF c = (sz, lo, hi)) (hs : sz = 1) :
    Calls Tryz.prog 197 #[.slice (some ⟨b, off, none⟩) zs.length cap] w (RetOne zs w) := by
  have hlead := leadU c w h0 h1
  rw [hL] at hlead
  dsimp only at hlead
  have HL := Lib.hid hlead
  have hne : ((zs.length : Int) == 0) = false := beq_eq_false_iff_ne.2 (by omega)
  have hfin : Hid (oneF zs = (c, 1, 0)) := by rw [hz]; show (if _ then _ else _) = _; rw [hL, hs]; rfl
  clear hz hlead hL
  subst hs
  go_enter Tryz.func197, Tryz.ntmps197
  go_wp2
  refine wp_scope_fwd 0 rfl ?_
  go_wp2_with (go_at_call 198; refine HL.out.mono ?_; rintro e w' ⟨rfl, rfl⟩)
  simp only [Exit.jump]
  go_ret3
  exact ⟨ret3 hfin.out, 0, rfl⟩

end Go.Proofs.YtncpokioagpclaaGreatDoor
namespace Go.Proofs.YtncpokioagpclaaGreatDoor
set_option linter.unusedVariables false
open Go.RowKit

theorem one_start {zs r : List Int} {c s lo hi : Int} {sz : Nat} (hz : zs = c :: r) (hL : leadF c = ((sz : Int), lo, hi)) (h0 : 0 ≤ c) (h1 : c ≤ 255) (hc : sz = 2 ∧ 194 ≤ c ∧ c < 224 ∨ sz = 3 ∧ 224 ≤ c ∧ c < 240 ∨ sz = 4 ∧ 240 ≤ c ∧ c < 245)
    (hs : s = c % (if sz = 2 then 32 else if sz = 3 then 16 else 8)) :
    0 ≤ s ∧ (1 = 1 → s < 32) ∧ (1 = 2 → s < 2048) ∧ (1 = 3 → s < 131072) ∧ contF (sz - 1) (zs.drop 1) (1 : Nat) s lo hi = oneF zs := by
  subst hz
  have h2 : oneF (c :: r) = contF (sz - 1) r 1 s lo hi := by
    show (if (leadF c).1 = 0 then _ else if (leadF c).1 = 1 then _ else _) = _
    rw [hL, hs]
    simp only
    rw [if_neg (by omega), if_neg (by omega)]
    rcases hc with h | h | h <;> simp [h.1]
  refine ⟨?_, ?_, ?_, ?_, ?_⟩
  · rw [hs]; split <;> (try split) <;> omega
  · intro _; rw [hs]; split <;> (try split) <;> omega
  · intro h; cases h
  · intro h; cases h
  · rw [h2]; rfl

set_option maxHeartbeats 800000 in
theorem one_some2 (b off : Nat) (cap : Nat) (zs : List Int) (w : World) (c : Int) (r : List Int) (hz : zs = c :: r)
    (hr : ∀ j, j < zs.length → w.cell? ⟨b, off + j, none⟩ = some (.int .u8 (zs.getD j 0))) (hlen : 0 < zs.length) (hl : zs.length ≤ 140737488355300) (hc : zs.length ≤ cap) (h0 : 0 ≤ c) (h1 : c ≤ 255) (lo hi : Int) (hL : leadF c = (2, lo, hi)) (hcc : 194 ≤ c ∧ c < 224) (hzb : ∀ j, j < zs.length → 0 ≤ zs.getD j 0 ∧ zs.getD j 0 ≤ 255) :
    Calls Tryz.prog 197 #[.slice (some ⟨b, off, none⟩) zs.length cap] w (RetOne zs w) := by
  have hc0 : w.cell? ⟨b, off, none⟩ = some (.int .u8 c) := by simpa [hz] using hr 0 (by simp [hz])
  have hlead := leadU c w h0 h1
  rw [hL] at hlead
  dsimp only at hlead
  have HL := Lib.hid hlead
  have hmask : bits .and .i64 c 31 = c % 32 := i64_mask31 c h0 (by omega)
  have hne : ((zs.length : Int) == 0) = false := beq_eq_false_iff_ne.2 (by omega)
  have HR := Lib.hid hr
  have HZ := Lib.hid hz
  have HLF := Lib.hid hL
  have HCC := Lib.hid hcc
  clear hz hlead hL hr hcc
  go_enter Tryz.func197, Tryz.ntmps197
  go_wp2
  refine wp_scope_fwd 0 rfl ?_
  go_wp2_with (go_at_call 198; refine HL.out.mono ?_; rintro e w' ⟨rfl, rfl⟩)
  go_quiet (fail)
  go_wp2
  go_loop [5, 7, 8, 9] (fun s k l h => ∃ (K : Nat) (S L H : Int), 1 ≤ K ∧ K ≤ 2 ∧ K ≤ zs.length ∧ s = .int .i64 S ∧ k = .int .i64 K ∧ l = .int .u8 L ∧ h = .int .u8 H ∧ 0 ≤ S ∧ (K = 1 → S < 32) ∧ (K = 2 → S < 2048) ∧ (K = 3 → S < 131072) ∧ contF (2 - K) (zs.drop K) K S L H = oneF zs)
    (fun _ k _ _ => 4 - (intOf k).toNat)
  case atStart => exact ⟨1, _, lo, hi, by omega, by omega, by omega, rfl, rfl, rfl, rfl, one_start HZ.out HLF.out h0 h1 (.inl ⟨rfl, HCC.out⟩) rfl⟩
  case round =>
    obtain ⟨K, S, L, H, k1, k2, k3, rfl, rfl, rfl, rfl, s0, s1, s2, s3, hcont⟩ := hrel
    have HC := Lib.hid hcont
    clear hcont
    by_cases hK : K = 2
    · subst hK
      have hfin : oneF zs = (S, 2, 0) := by rw [← HC.out]; rfl
      have HF := Lib.hid hfin
      clear hfin
      go_wp2
      simp only [Exit.jump]
      go_ret3
      exact ⟨ret3 HF.out, nq, rfl⟩
    obtain ⟨m, hm⟩ : ∃ m, 2 - K = m + 1 := ⟨2 - K - 1, by omega⟩
    have HM := Lib.hid hm
    clear hm
    by_cases hKl : K = zs.length
    · have hfin : oneF zs = (0, (K : Int), 2) := by rw [← HC.out, HM.out, List.drop_of_length_le (by omega)]; rfl
      have HF := Lib.hid hfin
      clear hfin
      go_wp2
      go_step3
      refine ⟨rfl, ?_⟩
      go_wp2
      simp only [Exit.jump]
      go_ret3
      exact ⟨ret3 (HF.out.trans (by rw [hKl])), nq, rfl⟩
    have hKl' : K < zs.length := by omega
    have hcell := HR.out K hKl'
    obtain ⟨x, hx⟩ : ∃ x, x = zs.getD K 0 := ⟨_, rfl⟩
    rw [← hx] at hcell
    have hdr : zs.drop K = x :: zs.drop (K + 1) := by rw [hx, List.drop_eq_getElem_cons hKl']; simp [List.getD_eq_getElem?_getD, hKl']
    have HD := Lib.hid hdr
    have hxb : 0 ≤ x ∧ x ≤ 255 := by rw [hx]; exact hzb K hKl'
    clear hx hdr
    by_cases hbad : x < L ∨ H < x
    · have hfin : oneF zs = (0, (K : Int), 1) := by rw [← HC.out, HM.out, HD.out]; show (if _ then _ else _) = _; rw [if_pos hbad]
      have HF := Lib.hid hfin
      clear hfin
      by_cases hlo : x < L
      · go_wp2
        go_step3
        refine ⟨rfl, ?_⟩
        go_wp2
        simp only [Exit.jump]
        go_ret3
        exact ⟨ret3 HF.out, nq, rfl⟩
      · have hhi : H < x := by omega
        clear hbad
        go_wp2
        go_step3
        refine ⟨rfl, ?_⟩
        go_wp2
        simp only [Exit.jump]
        go_ret3
        exact ⟨ret3 HF.out, nq, rfl⟩
    · have hfin : contF (2 - (K + 1)) (zs.drop (K + 1)) ((K + 1 : Nat) : Int) (S * 64 + x % 64) 128 191 = oneF zs := by
        rw [← HC.out, HM.out, HD.out]
        show _ = (if _ then _ else _)
        rw [if_neg hbad, show 2 - (K + 1) = m from by have := HM.out; omega]; rfl
      have HF := Lib.hid hfin
      have hlo : ¬ x < L := by omega
      have hhi : ¬ H < x := by omega
      clear hfin hbad
      go_wp2
      go_round
      case rel =>
        refine ⟨K + 1, S * 64 + x % 64, 128, 191, by omega, by omega, by omega, ?_, by go_num, rfl, rfl, by omega, by omega, by omega, by omega, HF.out⟩
        show Value.int _ _ = Value.int _ _
        rw [i64_join 6 (S * 64) (x % 64) (by omega) (by omega) (by omega) (by omega) (by omega) (by omega)]
      case measure => simp [intOf]; omega
set_option maxHeartbeats 800000 in
theorem one_some3 (b off : Nat) (cap : Nat) (zs : List Int) (w : World) (c : Int) (r : List Int) (hz : zs = c :: r)
    (hr : ∀ j, j < zs.length → w.cell? ⟨b, off + j, none⟩ = some (.int .u8 (zs.getD j 0))) (hlen : 0 < zs.length) (hl : zs.length ≤ 140737488355300) (hc : zs.length ≤ cap) (h0 : 0 ≤ c) (h1 : c ≤ 255) (lo hi : Int) (hL : leadF c = (3, lo, hi)) (hcc : 224 ≤ c ∧ c < 240) (hzb : ∀ j, j < zs.length → 0 ≤ zs.getD j 0 ∧ zs.getD j 0 ≤ 255) :
    Calls Tryz.prog 197 #[.slice (some ⟨b, off, none⟩) zs.length cap] w (RetOne zs w) := by
  have hc0 : w.cell? ⟨b, off, none⟩ = some (.int .u8 c) := by simpa [hz] using hr 0 (by simp [hz])
  have hlead := leadU c w h0 h1
  rw [hL] at hlead
  dsimp only at hlead
  have HL := Lib.hid hlead
  have hmask : bits .and .i64 c 15 = c % 16 := i64_mask15 c h0 (by omega)
  have hne : ((zs.length : Int) == 0) = false := beq_eq_false_iff_ne.2 (by omega)
  have HR := Lib.hid hr
  have HZ := Lib.hid hz
  have HLF := Lib.hid hL
  have HCC := Lib.hid hcc
  clear hz hlead hL hr hcc
  go_enter Tryz.func197, Tryz.ntmps197
  go_wp2
  refine wp_scope_fwd 0 rfl ?_
  go_wp2_with (go_at_call 198; refine HL.out.mono ?_; rintro e w' ⟨rfl, rfl⟩)
  go_quiet (fail)
  go_wp2
  go_loop [5, 7, 8, 9] (fun s k l h => ∃ (K : Nat) (S L H : Int), 1 ≤ K ∧ K ≤ 3 ∧ K ≤ zs.length ∧ s = .int .i64 S ∧ k = .int .i64 K ∧ l = .int .u8 L ∧ h = .int .u8 H ∧ 0 ≤ S ∧ (K = 1 → S < 32) ∧ (K = 2 → S < 2048) ∧ (K = 3 → S < 131072) ∧ contF (3 - K) (zs.drop K) K S L H = oneF zs)
    (fun _ k _ _ => 4 - (intOf k).toNat)
  case atStart => exact ⟨1, _, lo, hi, by omega, by omega, by omega, rfl, rfl, rfl, rfl, one_start HZ.out HLF.out h0 h1 (.inr (.inl ⟨rfl, HCC.out⟩)) rfl⟩
  case round =>
    obtain ⟨K, S, L, H, k1, k2, k3, rfl, rfl, rfl, rfl, s0, s1, s2, s3, hcont⟩ := hrel
    have HC := Lib.hid hcont
    clear hcont
    by_cases hK : K = 3
    · subst hK
      have hfin : oneF zs = (S, 3, 0) := by rw [← HC.out]; rfl
      have HF := Lib.hid hfin
      clear hfin
      go_wp2
      simp only [Exit.jump]
      go_ret3
      exact ⟨ret3 HF.out, nq, rfl⟩
    obtain ⟨m, hm⟩ : ∃ m, 3 - K = m + 1 := ⟨3 - K - 1, by omega⟩
    have HM := Lib.hid hm
    clear hm
    by_cases hKl : K = zs.length
    · have hfin : oneF zs = (0, (K : Int), 2) := by rw [← HC.out, HM.out, List.drop_of_length_le (by omega)]; rfl
      have HF := Lib.hid hfin
      clear hfin
      go_wp2
      go_step3
      refine ⟨rfl, ?_⟩
      go_wp2
      simp only [Exit.jump]
      go_ret3
      exact ⟨ret3 (HF.out.trans (by rw [hKl])), nq, rfl⟩
    have hKl' : K < zs.length := by omega
    have hcell := HR.out K hKl'
    obtain ⟨x, hx⟩ : ∃ x, x = zs.getD K 0 := ⟨_, rfl⟩
    rw [← hx] at hcell
    have hdr : zs.drop K = x :: zs.drop (K + 1) := by rw [hx, List.drop_eq_getElem_cons hKl']; simp [List.getD_eq_getElem?_getD, hKl']
    have HD := Lib.hid hdr
    have hxb : 0 ≤ x ∧ x ≤ 255 := by rw [hx]; exact hzb K hKl'
    clear hx hdr
    by_cases hbad : x < L ∨ H < x
    · have hfin : oneF zs = (0, (K : Int), 1) := by rw [← HC.out, HM.out, HD.out]; show (if _ then _ else _) = _; rw [if_pos hbad]
      have HF := Lib.hid hfin
      clear hfin
      by_cases hlo : x < L
      · go_wp2
        go_step3
        refine ⟨rfl, ?_⟩
        go_wp2
        simp only [Exit.jump]
        go_ret3
        exact ⟨ret3 HF.out, nq, rfl⟩
      · have hhi : H < x := by omega
        clear hbad
        go_wp2
        go_step3
        refine ⟨rfl, ?_⟩
        go_wp2
        simp only [Exit.jump]
        go_ret3
        exact ⟨ret3 HF.out, nq, rfl⟩
    · have hfin : contF (3 - (K + 1)) (zs.drop (K + 1)) ((K + 1 : Nat) : Int) (S * 64 + x % 64) 128 191 = oneF zs := by
        rw [← HC.out, HM.out, HD.out]
        show _ = (if _ then _ else _)
        rw [if_neg hbad, show 3 - (K + 1) = m from by have := HM.out; omega]; rfl
      have HF := Lib.hid hfin
      have hlo : ¬ x < L := by omega
      have hhi : ¬ H < x := by omega
      clear hfin hbad
      go_wp2
      go_round
      case rel =>
        refine ⟨K + 1, S * 64 + x % 64, 128, 191, by omega, by omega, by omega, ?_, by go_num, rfl, rfl, by omega, by omega, by omega, by omega, HF.out⟩
        show Value.int _ _ = Value.int _ _
        rw [i64_join 6 (S * 64) (x % 64) (by omega) (by omega) (by omega) (by omega) (by omega) (by omega)]
      case measure => simp [intOf]; omega
set_option maxHeartbeats 800000 in
theorem one_some4 (b off : Nat) (cap : Nat) (zs : List Int) (w : World) (c : Int) (r : List Int) (hz : zs = c :: r)
    (hr : ∀ j, j < zs.length → w.cell? ⟨b, off + j, none⟩ = some (.int .u8 (zs.getD j 0))) (hlen : 0 < zs.length) (hl : zs.length ≤ 140737488355300) (hc : zs.length ≤ cap) (h0 : 0 ≤ c) (h1 : c ≤ 255) (lo hi : Int) (hL : leadF c = (4, lo, hi)) (hcc : 240 ≤ c ∧ c < 245) (hzb : ∀ j, j < zs.length → 0 ≤ zs.getD j 0 ∧ zs.getD j 0 ≤ 255) :
    Calls Tryz.prog 197 #[.slice (some ⟨b, off, none⟩) zs.length cap] w (RetOne zs w) := by
  have hc0 : w.cell? ⟨b, off, none⟩ = some (.int .u8 c) := by simpa [hz] using hr 0 (by simp [hz])
  have hlead := leadU c w h0 h1
  rw [hL] at hlead
  dsimp only at hlead
  have HL := Lib.hid hlead
  have hmask : bits .and .i64 c 7 = c % 8 := i64_mask7 c h0 (by omega)
  have hne : ((zs.length : Int) == 0) = false := beq_eq_false_iff_ne.2 (by omega)
  have HR := Lib.hid hr
  have HZ := Lib.hid hz
  have HLF := Lib.hid hL
  have HCC := Lib.hid hcc
  clear hz hlead hL hr hcc
  go_enter Tryz.func197, Tryz.ntmps197
  go_wp2
  refine wp_scope_fwd 0 rfl ?_
  go_wp2_with (go_at_call 198; refine HL.out.mono ?_; rintro e w' ⟨rfl, rfl⟩)
  go_quiet (fail)
  go_wp2
  go_loop [5, 7, 8, 9] (fun s k l h => ∃ (K : Nat) (S L H : Int), 1 ≤ K ∧ K ≤ 4 ∧ K ≤ zs.length ∧ s = .int .i64 S ∧ k = .int .i64 K ∧ l = .int .u8 L ∧ h = .int .u8 H ∧ 0 ≤ S ∧ (K = 1 → S < 32) ∧ (K = 2 → S < 2048) ∧ (K = 3 → S < 131072) ∧ contF (4 - K) (zs.drop K) K S L H = oneF zs)
    (fun _ k _ _ => 4 - (intOf k).toNat)
  case atStart => exact ⟨1, _, lo, hi, by omega, by omega, by omega, rfl, rfl, rfl, rfl, one_start HZ.out HLF.out h0 h1 (.inr (.inr ⟨rfl, HCC.out⟩)) rfl⟩
  case round =>
    obtain ⟨K, S, L, H, k1, k2, k3, rfl, rfl, rfl, rfl, s0, s1, s2, s3, hcont⟩ := hrel
    have HC := Lib.hid hcont
    clear hcont
    by_cases hK : K = 4
    · subst hK
      have hfin : oneF zs = (S, 4, 0) := by rw [← HC.out]; rfl
      have HF := Lib.hid hfin
      clear hfin
      go_wp2
      simp only [Exit.jump]
      go_ret3
      exact ⟨ret3 HF.out, nq, rfl⟩
    obtain ⟨m, hm⟩ : ∃ m, 4 - K = m + 1 := ⟨4 - K - 1, by omega⟩
    have HM := Lib.hid hm
    clear hm
    by_cases hKl : K = zs.length
    · have hfin : oneF zs = (0, (K : Int), 2) := by rw [← HC.out, HM.out, List.drop_of_length_le (by omega)]; rfl
      have HF := Lib.hid hfin
      clear hfin
      go_wp2
      go_step3
      refine ⟨rfl, ?_⟩
      go_wp2
      simp only [Exit.jump]
      go_ret3
      exact ⟨ret3 (HF.out.trans (by rw [hKl])), nq, rfl⟩
    have hKl' : K < zs.length := by omega
    have hcell := HR.out K hKl'
    obtain ⟨x, hx⟩ : ∃ x, x = zs.getD K 0 := ⟨_, rfl⟩
    rw [← hx] at hcell
    have hdr : zs.drop K = x :: zs.drop (K + 1) := by rw [hx, List.drop_eq_getElem_cons hKl']; simp [List.getD_eq_getElem?_getD, hKl']
    have HD := Lib.hid hdr
    have hxb : 0 ≤ x ∧ x ≤ 255 := by rw [hx]; exact hzb K hKl'
    clear hx hdr
    by_cases hbad : x < L ∨ H < x
    · have hfin : oneF zs = (0, (K : Int), 1) := by rw [← HC.out, HM.out, HD.out]; show (if _ then _ else _) = _; rw [if_pos hbad]
      have HF := Lib.hid hfin
      clear hfin
      by_cases hlo : x < L
      · go_wp2
        go_step3
        refine ⟨rfl, ?_⟩
        go_wp2
        simp only [Exit.jump]
        go_ret3
        exact ⟨ret3 HF.out, nq, rfl⟩
      · have hhi : H < x := by omega
        clear hbad
        go_wp2
        go_step3
        refine ⟨rfl, ?_⟩
        go_wp2
        simp only [Exit.jump]
        go_ret3
        exact ⟨ret3 HF.out, nq, rfl⟩
    · have hfin : contF (4 - (K + 1)) (zs.drop (K + 1)) ((K + 1 : Nat) : Int) (S * 64 + x % 64) 128 191 = oneF zs := by
        rw [← HC.out, HM.out, HD.out]
        show _ = (if _ then _ else _)
        rw [if_neg hbad, show 4 - (K + 1) = m from by have := HM.out; omega]; rfl
      have HF := Lib.hid hfin
      have hlo : ¬ x < L := by omega
      have hhi : ¬ H < x := by omega
      clear hfin hbad
      go_wp2
      go_round
      case rel =>
        refine ⟨K + 1, S * 64 + x % 64, 128, 191, by omega, by omega, by omega, ?_, by go_num, rfl, rfl, by omega, by omega, by omega, by omega, HF.out⟩
        show Value.int _ _ = Value.int _ _
        rw [i64_join 6 (S * 64) (x % 64) (by omega) (by omega) (by omega) (by omega) (by omega) (by omega)]
      case measure => simp [intOf]; omega

theorem one_any (A : Option Addr) (cap : Nat) (zs : List Int) (w : World) (hr : Rd w w.heap.size A (zs.map (Value.int .u8))) (hl : zs.length ≤ 140737488355300) (hc : zs.length ≤ cap) (hw : ∀ z ∈ zs, 0 ≤ z ∧ z ≤ 255) :
    Calls Tryz.prog 197 #[.slice A zs.length cap] w (RetOne zs w) := by
  cases zs with
  | nil => exact one_nil A cap w
  | cons c r =>
    obtain ⟨b, off, rfl, hb, hcell⟩ := rd_ints hr (by simp)
    have hc0 : w.cell? ⟨b, off, none⟩ = some (.int .u8 c) := by simpa using hcell 0 (by simp)
    have hcw := hw c (by simp)
    have hzb := getD_range hw
    obtain ⟨sz, lo, hi, hL⟩ : ∃ sz lo hi, leadF c = (sz, lo, hi) := ⟨_, _, _, rfl⟩
    have hf := leadF_fact c hcw.1 hcw.2
    rw [hL] at hf
    simp only at hf
    rcases hf with rfl | ⟨rfl, hf⟩ | ⟨h1, h2, ⟨rfl, h3⟩ | ⟨rfl, h3⟩ | ⟨rfl, h3⟩⟩
    · exact one_some0 b off cap _ w c r rfl hc0 (by simp) hl hc hcw.1 hcw.2 _ _ _ hL rfl
    · exact one_some1 b off cap _ w c r rfl hc0 (by simp) hl hc hcw.1 hcw.2 _ _ _ hL rfl
    · exact one_some2 b off cap _ w c r rfl hcell (by simp) hl hc hcw.1 hcw.2 _ _ hL h3 hzb
    · exact one_some3 b off cap _ w c r rfl hcell (by simp) hl hc hcw.1 hcw.2 _ _ hL h3 hzb
    · exact one_some4 b off cap _ w c r rfl hcell (by simp) hl hc hcw.1 hcw.2 _ _ hL h3 hzb
end Go.Proofs.YtncpokioagpclaaGreatDoor
namespace Go.Proofs.YtncpokioagpclaaGreatDoor
set_option linter.unusedVariables false
open Go.RowKit

theorem ubelow_drewN (w : World) (n : Nat) : Below w.heap.size w (w.drewN n) := ⟨rfl, rfl, rfl, Nat.le_refl _, fun _ _ => rfl⟩
theorem one_at (n : Nat) (A : Option Addr) (cap : Nat) (zs : List Int) (s k e : Int) (w : World) (hn : n = zs.length) (hr : Rd w w.heap.size A (zs.map (Value.int .u8))) (hl : zs.length ≤ 140737488355300) (hc : zs.length ≤ cap) (hw : ∀ z ∈ zs, 0 ≤ z ∧ z ≤ 255) (hf : oneF zs = (s, k, e)) :
    Calls Tryz.prog 197 #[.slice A n cap] w fun en w' => en = .returned (.tuple #[.int .i64 s, .int .i64 k, .int .i64 e]) ∧ Below w.heap.size w w' := by
  subst hn
  refine (one_any A cap zs w hr hl hc hw).mono fun en w' h => ?_
  unfold RetOne at h
  rw [hf] at h
  obtain ⟨h, n, rfl⟩ := h
  exact ⟨h, ubelow_drewN w n⟩
end Go.Proofs.YtncpokioagpclaaGreatDoor
namespace Go.Proofs.YtncpokioagpclaaGreatDoor
set_option linter.unusedVariables false

theorem encL_bytes (s : Int) (h : scB s = true) : ∀ z ∈ encL s, 0 ≤ z ∧ z ≤ 255 := by
  have hs := scB_t.1 h
  unfold encL
  (repeat' split) <;> simp <;> omega
end Go.Proofs.YtncpokioagpclaaGreatDoor
namespace Go.Proofs.YtncpokioagpclaaGreatDoor
set_option linter.unusedVariables false
open Go.RowKit

/-- a token, as plain data -/
structure Tok where
  pos : Int
  size : Int
  err : Int
  out : List Int

/-- as Rd; the block's element type is T -/
def RdT (w : World) (B : Nat) (T : TypeId) (A : Option Addr) (xs : List Value) : Prop :=
  xs = [] ∨ ∃ b off c fr, A = some ⟨b, off, none⟩ ∧ b < B ∧ w.heap[b]? = some (.cells c T fr) ∧ ∀ j, j < xs.length → c[off + j]? = xs[j]?
theorem RdT.keep {w w' : World} {B B' : Nat} {T : TypeId} {A : Option Addr} {xs : List Value} (h : RdT w B T A xs) (hB : B ≤ B') (hk : ∀ b c fr, b < B → w.heap[b]? = some (.cells c T fr) → w'.heap[b]? = w.heap[b]?) : RdT w' B' T A xs := by
  rcases h with h | ⟨b, off, c, fr, h1, h2, h3, h4⟩
  · exact .inl h
  · exact .inr ⟨b, off, c, fr, h1, by omega, (hk b c fr h2 h3).trans h3, h4⟩

/-- these cells are those of the tokens; what their Out lead to lies below block B -/
def Toks (w : World) (B : Nat) : List Value → List Tok → Prop
  | [], [] => True
  | a :: b :: s :: e :: xs, t :: ts => a = .int .i64 t.pos ∧ b = .int .i64 t.size ∧ (∃ A c, s = .slice A t.out.length c ∧ t.out.length ≤ c ∧ c ≤ maxLen ∧ RdT w B 3 A (t.out.map (Value.int .i64))) ∧ e = .int .i64 t.err ∧ Toks w B xs ts
  | _, _ => False

theorem Toks.keep {w w' : World} {B B' : Nat} (hB : B ≤ B') (hk : ∀ b c fr, b < B → w.heap[b]? = some (.cells c 3 fr) → w'.heap[b]? = w.heap[b]?) : ∀ {xs : List Value} {ts : List Tok}, Toks w B xs ts → Toks w' B' xs ts
  | [], [], _ => trivial
  | a :: b :: s :: e :: xs, t :: ts, ⟨h1, h2, ⟨A, c, h3, h4, h5, h6⟩, h7, h8⟩ => ⟨h1, h2, ⟨A, c, h3, h4, h5, h6.keep hB hk⟩, h7, Toks.keep hB hk h8⟩
theorem Toks.below {w w' : World} {B B' : Nat} {xs : List Value} {ts : List Tok} (h : Toks w B xs ts) (hb : Below B w w') (hB : B ≤ B') : Toks w' B' xs ts := h.keep hB fun b _ _ hl _ => hb.block b hl
theorem Toks.grown {w w' : World} {B B' base n size : Nat} {T : TypeId} {v : Value} {ys : List Value} {xs : List Value} {ts : List Tok} (h : Toks w B xs ts) (hw : B ≤ w.heap.size) (hB : B ≤ B') (ho : w.ownsRow base T size v n ys) (hT : T ≠ 3) (hg : w.grownBy w' v.ownBlock) : Toks w' B' xs ts :=
  h.keep hB fun b c fr hl hc => hg.block b (by omega) (fun e => by
    rcases ho.2 with ⟨rfl, _⟩ | ⟨g, cap, cur, rfl, _, hh, _⟩
    · simp [Value.ownBlock] at e
    · have : b = g := by simpa [Value.ownBlock] using e
      subst this
      rw [hh] at hc
      injection hc with hc
      injection hc with _ hc
      exact hT hc)
theorem Toks.length {w : World} {B : Nat} : ∀ {xs : List Value} {ts : List Tok}, Toks w B xs ts → xs.length = ts.length * 4
  | [], [], _ => rfl
  | a :: b :: s :: e :: xs, t :: ts, ⟨_, _, _, _, h8⟩ => by simp only [List.length_cons, Toks.length h8]; omega
theorem Toks.snoc {w : World} {B : Nat} {t : Tok} {A : Option Addr} {c : Nat} (h4 : t.out.length ≤ c) (h5 : c ≤ maxLen) (h6 : RdT w B 3 A (t.out.map (Value.int .i64))) :
    ∀ {xs : List Value} {ts : List Tok}, Toks w B xs ts → Toks w B (xs ++ [.int .i64 t.pos, .int .i64 t.size, .slice A t.out.length c, .int .i64 t.err]) (ts ++ [t])
  | [], [], _ => ⟨rfl, rfl, ⟨A, c, rfl, h4, h5, h6⟩, rfl, trivial⟩
  | a :: b :: s :: e :: xs, t' :: ts, ⟨g1, g2, g3, g4, g5⟩ => ⟨g1, g2, g3, g4, Toks.snoc h4 h5 h6 g5⟩
theorem Toks.cell {w : World} {B : Nat} : ∀ {xs : List Value} {ts : List Tok} (h : Toks w B xs ts) (k : Nat) (t : Tok), ts[k]? = some t →
    xs[k * 4]? = some (.int .i64 t.pos) ∧ xs[k * 4 + 1]? = some (.int .i64 t.size) ∧ (∃ A c, xs[k * 4 + 2]? = some (.slice A t.out.length c) ∧ t.out.length ≤ c ∧ c ≤ maxLen ∧ RdT w B 3 A (t.out.map (Value.int .i64))) ∧ xs[k * 4 + 3]? = some (.int .i64 t.err)
  | [], [], _, k, t, h => by simp at h
  | a :: b :: s :: e :: xs, t' :: ts, ⟨g1, g2, ⟨A, c, g3, g3'⟩, g4, g5⟩, 0, t, h => by
    obtain rfl : t' = t := by simpa using h
    subst g1 g2 g3 g4
    exact ⟨rfl, rfl, ⟨A, c, rfl, g3'⟩, rfl⟩
  | a :: b :: s :: e :: xs, t' :: ts, ⟨_, _, _, _, g5⟩, k + 1, t, h => by
    have := Toks.cell g5 k t (by simpa using h)
    have e0 : (k + 1) * 4 = k * 4 + 1 + 1 + 1 + 1 := by omega
    rw [e0]
    exact this

/-- the tokens of bytes, the first one at pos -/
def allF : Nat → Int → List Int → List Tok
  | 0, _, _ => []
  | _ + 1, _, [] => []
  | f + 1, at_, z :: zs => ⟨at_, (oneF (z :: zs)).2.1, (oneF (z :: zs)).2.2, if (oneF (z :: zs)).2.2 = 0 then [(oneF (z :: zs)).1] else []⟩ :: allF f (at_ + (oneF (z :: zs)).2.1) ((z :: zs).drop (oneF (z :: zs)).2.1.toNat)

theorem contF_n : ∀ (need : Nat) (r : List Int) (k s lo hi : Int), k ≤ (contF need r k s lo hi).2.1 ∧ (contF need r k s lo hi).2.1 ≤ k + r.length ∧ 0 ≤ (contF need r k s lo hi).2.2 ∧ (contF need r k s lo hi).2.2 ≤ 2
  | 0, r, k, s, lo, hi => by show k ≤ k ∧ k ≤ k + (r.length : Int) ∧ (0 : Int) ≤ 0 ∧ (0 : Int) ≤ 2; omega
  | n + 1, [], k, s, lo, hi => by show k ≤ k ∧ k ≤ k + (0 : Int) ∧ (0 : Int) ≤ 2 ∧ (2 : Int) ≤ 2; omega
  | n + 1, c :: r, k, s, lo, hi => by
    show k ≤ (if c < lo ∨ hi < c then (0, k, 1) else contF n r (k + 1) (s * 64 + c % 64) 128 191 : Int × Int × Int).2.1 ∧ (if c < lo ∨ hi < c then (0, k, 1) else contF n r (k + 1) (s * 64 + c % 64) 128 191 : Int × Int × Int).2.1 ≤ k + ((c :: r).length : Int) ∧ 0 ≤ (if c < lo ∨ hi < c then (0, k, 1) else contF n r (k + 1) (s * 64 + c % 64) 128 191 : Int × Int × Int).2.2 ∧ (if c < lo ∨ hi < c then (0, k, 1) else contF n r (k + 1) (s * 64 + c % 64) 128 191 : Int × Int × Int).2.2 ≤ 2
    have := contF_n n r (k + 1) (s * 64 + c % 64) 128 191
    simp only [List.length_cons]
    split
    · simp only; omega
    · omega
theorem oneF_n (z : Int) (zs : List Int) : 1 ≤ (oneF (z :: zs)).2.1 ∧ (oneF (z :: zs)).2.1 ≤ zs.length + 1 ∧ 0 ≤ (oneF (z :: zs)).2.2 ∧ (oneF (z :: zs)).2.2 ≤ 2 := by
  have h := contF_n ((leadF z).1.toNat - 1) zs 1 (z % (if (leadF z).1 = 2 then 32 else if (leadF z).1 = 3 then 16 else 8)) (leadF z).2.1 (leadF z).2.2
  have e : oneF (z :: zs) = if (leadF z).1 = 0 then (0, 1, 1) else if (leadF z).1 = 1 then (z, 1, 0) else contF ((leadF z).1.toNat - 1) zs 1 (z % (if (leadF z).1 = 2 then 32 else if (leadF z).1 = 3 then 16 else 8)) (leadF z).2.1 (leadF z).2.2 := rfl
  rw [e]
  generalize contF ((leadF z).1.toNat - 1) zs 1 (z % (if (leadF z).1 = 2 then 32 else if (leadF z).1 = 3 then 16 else 8)) (leadF z).2.1 (leadF z).2.2 = x at h
  by_cases h1 : (leadF z).1 = 0
  · rw [if_pos h1]; simp only; omega
  · rw [if_neg h1]
    by_cases h2 : (leadF z).1 = 1
    · rw [if_pos h2]; simp only; omega
    · rw [if_neg h2]; omega

theorem uall_step {zs : List Int} {K f : Nat} {z s n er : Int} {done : List Tok} {t : Tok} (hfin : done ++ allF f K (zs.drop K) = allF zs.length 0 zs) (hd : zs.drop K = z :: zs.drop (K + 1)) (ho : oneF (zs.drop K) = (s, n, er)) (hf : zs.length - K ≤ f) (hn1 : 1 ≤ n) (hn2 : n ≤ zs.length - K) (hK : K < zs.length)
    (hdk : done.length ≤ K) (ht : t = ⟨K, n, er, if er = 0 then [s] else []⟩) :
    ∃ f' : Nat, zs.length - (K + n.toNat) ≤ f' ∧ (done ++ [t]) ++ allF f' ((K + n.toNat : Nat) : Int) (zs.drop (K + n.toNat)) = allF zs.length 0 zs := by
  obtain ⟨f', rfl⟩ : ∃ f', f = f' + 1 := ⟨f - 1, by omega⟩
  refine ⟨f', by omega, ?_⟩
  rw [← hfin, hd]
  rw [hd] at ho
  show _ = done ++ (⟨K, (oneF (z :: zs.drop (K + 1))).2.1, (oneF (z :: zs.drop (K + 1))).2.2, if (oneF (z :: zs.drop (K + 1))).2.2 = 0 then [(oneF (z :: zs.drop (K + 1))).1] else []⟩ :: allF f' ((K : Int) + (oneF (z :: zs.drop (K + 1))).2.1) ((z :: zs.drop (K + 1)).drop (oneF (z :: zs.drop (K + 1))).2.1.toNat))
  rw [ho, ht, ← hd, List.drop_drop]
  simp only
  rw [show (((K + n.toNat : Nat) : Int)) = (K : Int) + n from by omega]
  simp

theorem RdT_new (w : World) (cs : Array Value) (T : TypeId) (m : Nat) (hm : w.heap.size = m) : RdT (w.alloc (.cells cs T)) (m + 1) T (some ⟨m, 0, none⟩) cs.toList := by
  subst hm
  exact .inr ⟨w.heap.size, 0, cs, _, rfl, by omega, heap_alloc_new w _, fun j hj => by simp⟩
theorem toks_push {w1 W w2 : World} {base n c : Nat} {v : Value} {ys xs : List Value} {done : List Tok} {t : Tok} {A : Option Addr} (h : Toks w1 w1.heap.size xs done) (hb : Below w1.heap.size w1 W) (hA : RdT W W.heap.size 3 A (t.out.map (Value.int .i64))) (hc : t.out.length ≤ c) (hm : c ≤ maxLen)
    (ho : W.ownsRow base 51 4 v n ys) (hg : W.grownBy w2 v.ownBlock) : Toks w2 w2.heap.size (xs ++ [.int .i64 t.pos, .int .i64 t.size, .slice A t.out.length c, .int .i64 t.err]) (done ++ [t]) :=
  ((h.below hb hb.size).snoc hc hm hA).grown (Nat.le_refl _) hg.size ho (by decide) hg

theorem Rd_new' (w : World) (cs : Array Value) (t : TypeId) (m : Nat) (hm : w.heap.size = m) : Rd (w.alloc (.cells cs t)) (m + 1) (some ⟨m, 0, none⟩) cs.toList := by subst hm; exact Rd_new w cs t

theorem info44 : (Tryz.prog.info? 51).map (fun i => (i.zero, i.size, i.bytes)) = some (some (.agg #[.int .i64 0, .int .i64 0, .slice none 0 0, .int .i64 0]), 4, 48) := by kernel_rfl

set_option maxHeartbeats 800000 in
theorem all_any (A : Option Addr) (cap : Nat) (zs : List Int) (w : World) (hr : Rd w w.heap.size A (zs.map (Value.int .u8))) (hl : zs.length ≤ 8388608) (hc : zs.length ≤ cap) (hw : ∀ z ∈ zs, 0 ≤ z ∧ z ≤ 255) :
    Calls Tryz.prog 196 #[.slice A zs.length cap] w fun e w' => ∃ v xs, e = .returned v ∧ w'.ownsRow w.heap.size 51 4 v (allF zs.length 0 zs).length xs ∧ Toks w' w'.heap.size xs (allF zs.length 0 zs) ∧ Below w.heap.size w w' := by
  obtain ⟨i0, hi, hz0, hz1, hz2⟩ := info_parts info44
  have HR := Lib.hid hr
  have HW := Lib.hid hw
  clear hr hw
  go_enter Tryz.func196, Tryz.ntmps196
  go_wp2
  go_loopw [3, 4] (fun v k wr => ∃ (K f : Nat) (done : List Tok) (xs : List Value), K ≤ zs.length ∧ k = .int .i64 K ∧ wr.ownsRow w.heap.size 51 4 v done.length xs ∧ Toks wr wr.heap.size xs done ∧ done.length ≤ K ∧
      zs.length - K ≤ f ∧ done ++ allF f K (zs.drop K) = allF zs.length 0 zs ∧ Below w.heap.size w wr) (fun _ k _ => zs.length - (intOf k).toNat)
  case atStart => exact ⟨0, zs.length, [], [], by omega, rfl, World.ownsRow_nil _ _ _ _, trivial, by simp, by simp, by simp, Below.refl _ _⟩
  case round =>
    obtain ⟨K, f, done, xs, hK, rfl, hown, htok, hdk, hf, hfin, hb⟩ := hrel
    have HF := Lib.hid hfin
    clear hfin
    have HT := Lib.hid htok
    clear htok
    by_cases hKl : K = zs.length
    · have hall : done = allF zs.length 0 zs := by rw [← HF.out, hKl, List.drop_length]; cases f <;> simp [allF]
      have HA := Lib.hid hall
      have hKl' : ¬ K < zs.length := by omega
      clear hall hKl
      go_wp2
      go_ret
      exact ⟨_, xs, rfl, by rw [← HA.out]; exact hown, by rw [← HA.out]; exact HT.out, hb⟩
    have hKl' : K < zs.length := by omega
    obtain ⟨z, hdr⟩ : ∃ z, zs.drop K = z :: zs.drop (K + 1) := ⟨zs[K], List.drop_eq_getElem_cons hKl'⟩
    obtain ⟨s, n, er, hone⟩ : ∃ s n er, oneF (zs.drop K) = (s, n, er) := ⟨_, _, _, rfl⟩
    have hn := oneF_n z (zs.drop (K + 1))
    rw [← hdr, hone] at hn
    simp only [List.length_drop] at hn
    have hrd := Rd.drop (k := K) (cap := cap) (HR.out.below hb hb.size) (n := zs.length) (by simp) (by omega) hc
    rw [← List.map_drop] at hrd
    have HD := Lib.hid hdr
    have HO := Lib.hid hone
    clear hdr hone
    have hcapK : ¬ cap = K := by omega
    rw [if_neg hcapK] at hrd
    have HRD := Lib.hid hrd
    clear hrd
    have hn1 : 1 ≤ n := hn.1
    have hn2 : n ≤ zs.length - K := by omega
    have he0 : 0 ≤ er ∧ er ≤ 2 := hn.2.2
    clear hn
    have hK8 : zs.length ≤ 8388608 := hl
    by_cases hz : er = 0
    · subst hz
      go_wp2_with fail
      refine (one_at _ _ _ (zs.drop K) s n 0 _ (by simp) HRD.out (by simp; omega) (by simp; omega) (fun z hz => HW.out z (List.mem_of_mem_drop hz)) HO.out).mono ?_
      rintro e w1 ⟨rfl, hb1⟩
      go_wp2_with (at_builtin; refine wpList_app _ rfl _ _ 32 rfl w.heap.size 51 i0 _ 4 48 Tryz.underlying32 hi hz0 hz1 hz2 rfl (by decide) _ _ _ rfl ((((own_below hown hb1 (Nat.le_refl _)).alloc _).alloc _).alloc _) (w1.heap.size + 1 + 1 + 1) _ 1 1 [.int .i64 K, .int .i64 n, .slice (some ⟨w1.heap.size + 1, 0, none⟩) 1 1, .int .i64 0] rfl rfl ?c1 ?c2 ?c3 ?c4 ?c5 ?_)
      case c1 => exact Rd_new' _ _ _ _ (by simp)
      case c2 => intro u hu; simp at hu; rcases hu with rfl | rfl | rfl | rfl <;> rfl
      case c3 => simp only [maxLen]; omega
      case c4 => omega
      case c5 => have h1 := hb.size; have h2 := hb1.size; simp; omega
      intro v1 w2 hown2 hg2
      have R := uall_step (t := ⟨K, n, 0, [s]⟩) HF.out HD.out HO.out hf hn1 hn2 hKl' hdk rfl
      obtain ⟨f', hf', hR⟩ := R
      have hbW : Below w1.heap.size w1 (((w1.alloc (.cells #[.int .i64 K, .int .i64 n, .slice (some ⟨w1.heap.size + 1, 0, none⟩) 1 1, .int .i64 0] 51)).alloc (.cells #[.int .i64 s] 3)).alloc (.cells #[.int .i64 K, .int .i64 n, .slice (some ⟨w1.heap.size + 1, 0, none⟩) 1 1, .int .i64 0] 51)) :=
        (((Below.refl _ _).alloc (Nat.le_refl _) _).alloc (by simp) _).alloc (by simp; omega) _
      have hA := (RdT_new (w1.alloc (.cells #[.int .i64 K, .int .i64 n, .slice (some ⟨w1.heap.size + 1, 0, none⟩) 1 1, .int .i64 0] 51)) #[.int .i64 s] 3 (w1.heap.size + 1) (by simp))
      have hT2 := toks_push (t := ⟨K, n, 0, [s]⟩) (c := 1) (HT.out.below hb1 hb1.size) hbW (hA.keep (by simp) (fun b c fr hl hc => Below.heap_alloc _ _ _ (by simp; omega))) (by simp) (by simp [maxLen]) ((((own_below hown hb1 (Nat.le_refl _)).alloc _).alloc _).alloc _) hg2
      have hbE := (hb.trans (hb1.mono hb.size)).trans (below_own (B := w.heap.size) (hbW.mono (by have h1 := hb.size; have h2 := hb1.size; omega)) hg2 ((((own_below hown hb1 (Nat.le_refl _)).alloc _).alloc _).alloc _) (Nat.le_refl _) (by have h1 := hb.size; have h2 := hb1.size; simp; omega))
      have HR2 := Lib.hid hR
      clear hR
      go_wp2
      exact ⟨⟨K + n.toNat, f', done ++ [⟨K, n, 0, [s]⟩], _, by omega, by rw [show (((K + n.toNat : Nat)) : Int) = K + n from by omega], by simpa using hown2, hT2, by simp; omega, hf', HR2.out, hbE⟩, by simp [intOf]; omega⟩
    · have hz' : (er == 0) = false := beq_eq_false_iff_ne.2 hz
      go_wp2_with fail
      refine (one_at _ _ _ (zs.drop K) s n er _ (by simp) HRD.out (by simp; omega) (by simp; omega) (fun z hz => HW.out z (List.mem_of_mem_drop hz)) HO.out).mono ?_
      rintro e w1 ⟨rfl, hb1⟩
      go_wp2_with (at_builtin; refine wpList_app _ rfl _ _ 32 rfl w.heap.size 51 i0 _ 4 48 Tryz.underlying32 hi hz0 hz1 hz2 rfl (by decide) _ _ _ rfl (((own_below hown hb1 (Nat.le_refl _)).alloc _).alloc _) (w1.heap.size + 1 + 1) _ 1 1 [.int .i64 K, .int .i64 n, .slice none 0 0, .int .i64 er] rfl rfl ?c1 ?c2 ?c3 ?c4 ?c5 ?_)
      case c1 => exact Rd_new' _ _ _ _ (by simp)
      case c2 => intro u hu; simp at hu; rcases hu with rfl | rfl | rfl | rfl <;> rfl
      case c3 => simp only [maxLen]; omega
      case c4 => omega
      case c5 => have h1 := hb.size; have h2 := hb1.size; simp; omega
      intro v1 w2 hown2 hg2
      have R := uall_step (t := ⟨K, n, er, []⟩) HF.out HD.out HO.out hf hn1 hn2 hKl' hdk (by rw [if_neg hz])
      obtain ⟨f', hf', hR⟩ := R
      have hbW : Below w1.heap.size w1 ((w1.alloc (.cells #[.int .i64 K, .int .i64 n, .slice none 0 0, .int .i64 er] 51)).alloc (.cells #[.int .i64 K, .int .i64 n, .slice none 0 0, .int .i64 er] 51)) :=
        ((Below.refl _ _).alloc (Nat.le_refl _) _).alloc (by simp) _
      have hT2 := toks_push (t := ⟨K, n, er, []⟩) (A := none) (c := 0) (HT.out.below hb1 hb1.size) hbW (.inl rfl) (by simp) (by simp [maxLen]) (((own_below hown hb1 (Nat.le_refl _)).alloc _).alloc _) hg2
      have hbE := (hb.trans (hb1.mono hb.size)).trans (below_own (B := w.heap.size) (hbW.mono (by have h1 := hb.size; have h2 := hb1.size; omega)) hg2 (((own_below hown hb1 (Nat.le_refl _)).alloc _).alloc _) (Nat.le_refl _) (by have h1 := hb.size; have h2 := hb1.size; simp; omega))
      have HR2 := Lib.hid hR
      clear hR
      go_wp2
      exact ⟨⟨K + n.toNat, f', done ++ [⟨K, n, er, []⟩], _, by omega, by rw [show (((K + n.toNat : Nat)) : Int) = K + n from by omega], by simpa using hown2, hT2, by simp; omega, hf', HR2.out, hbE⟩, by simp [intOf]; omega⟩
end Go.Proofs.YtncpokioagpclaaGreatDoor
namespace Go.Proofs.YtncpokioagpclaaGreatDoor
set_option linter.unusedVariables false
open Go.RowKit

/-- scalars' bytes -/
def bytesF (ss : List Int) : List Int := ss.flatMap fun s => encL (fixS s)
theorem bytesF_snoc (ss : List Int) (s : Int) : bytesF (ss ++ [s]) = bytesF ss ++ encL (fixS s) := by simp [bytesF]
theorem bytesF_len (ss : List Int) : (bytesF ss).length ≤ ss.length * 4 := by
  induction ss with
  | nil => simp [bytesF]
  | cons s ss ih =>
    have e : bytesF (s :: ss) = encL (fixS s) ++ bytesF ss := rfl
    have := encL_len (fixS s)
    rw [e, List.length_append, List.length_cons]; omega
end Go.Proofs.YtncpokioagpclaaGreatDoor
namespace Go.Proofs.YtncpokioagpclaaGreatDoor
set_option linter.unusedVariables false
open Go.RowKit

set_option maxHeartbeats 800000 in
theorem bytes_any (n : Nat) (A : Option Addr) (cap : Nat) (ss : List Int) (w : World) (hn : n = ss.length) (hr : Rd w w.heap.size A (ss.map (Value.int .i64))) (hl : ss.length ≤ 1048576) (hc : ss.length ≤ cap) :
    Calls Tryz.prog 35 #[.slice A n cap] w fun e w' => ∃ v, e = .returned v ∧ OwnI .u8 5 w' w.heap.size v (bytesF ss) ∧ Below w.heap.size w w' := by
  subst hn
  have HR := Lib.hid hr
  clear hr
  go_enter Tryz.func35, Tryz.ntmps35
  go_wp2
  go_loopw [3, 8] (fun v k wr => ∃ (K : Nat), K ≤ ss.length ∧ k = .int .i64 K ∧ OwnI .u8 5 wr w.heap.size v (bytesF (ss.take K)) ∧ Below w.heap.size w wr) (fun _ k _ => ss.length - (intOf k).toNat)
  case atStart => exact ⟨0, by omega, rfl, World.ownsRow_nil _ _ _ _, Below.refl _ _⟩
  case round =>
    obtain ⟨K, hK, rfl, hown, hb⟩ := hrel
    have HO := Lib.hid hown
    clear hown
    by_cases hKl : K = ss.length
    · have hfin : ss.take K = ss := by rw [hKl]; exact List.take_length
      have HF := Lib.hid hfin
      have hKl' : ¬ K < ss.length := by omega
      clear hfin hKl
      go_wp2
      go_ret
      exact ⟨_, rfl, by have := HO.out; rw [HF.out] at this; exact this, hb⟩
    have hKl' : K < ss.length := by omega
    obtain ⟨b, off, rfl, hbl, hcell⟩ := rd_ints (HR.out.below hb hb.size) (by omega)
    have hx := hcell K hKl'
    obtain ⟨x, hxe⟩ : ∃ x, x = ss.getD K 0 := ⟨_, rfl⟩
    rw [← hxe] at hx
    have htk : ss.take (K + 1) = ss.take K ++ [x] := by rw [List.take_succ_eq_append_getElem hKl', hxe]; simp [List.getD_eq_getElem?_getD, hKl']
    have HTK := Lib.hid htk
    have hln := bytesF_len (ss.take K)
    rw [List.length_take] at hln
    have hmin : min K ss.length ≤ 1048576 := by omega
    clear hcell hxe htk
    go_wp2_with fail
    refine (push_any w.heap.size _ (bytesF (ss.take K)) _ _ HO.out (by omega) hb.size).mono ?_
    rintro e w1 ⟨v1, rfl, hown1, hg1⟩
    have HO1 := Lib.hid hown1
    have hb1 := below_own (B := w.heap.size) hb hg1 HO.out (Nat.le_refl _) hb.size
    clear hown1 hln hmin
    go_wp2
    exact ⟨⟨K + 1, by omega, by go_num, by have := HO1.out; rw [HTK.out, bytesF_snoc]; exact this, hb1⟩, by simp [intOf]; omega⟩
end Go.Proofs.YtncpokioagpclaaGreatDoor
