/- Contracts of push, Put of layer 1. -/
import Derived.Test.YtbigbkplhlmbmaaUtfA
namespace Go.Proofs.Ytbigbkplhlmbmaa
set_option linter.unusedVariables false
open Go.RowKit

/-- a scalar's bytes -/
def encL (s : Int) : List Int :=
  if s < 128 then [s] else if s < 2048 then [192 + s / 64, 128 + s % 64] else if s < 65536 then [224 + s / 4096, 128 + s / 64 % 64, 128 + s % 64]
  else [240 + s / 262144, 128 + s / 4096 % 64, 128 + s / 64 % 64, 128 + s % 64]
/-- what is no scalar counts as fffd -/
def fixS (s : Int) : Int := if scB s = true then s else 65533

theorem info5 : (Try.prog.info? 5).map (fun i => (i.zero, i.size, i.bytes)) = some (some (.int .u8 0), 1, 1) := by kernel_rfl

theorem encL_len (s : Int) : (encL s).length ≤ 4 := by unfold encL; (repeat' split) <;> simp

/-- what an append of the bytes bs behind zs leaves, seen from the call's world -/
theorem push_end {w w1 : World} {base : Nat} {v v1 : Value} {zs bs cs : List Int} {o : Obj} {n m : Nat} (hn : n = zs.length) (hm : m = bs.length) (he : cs = bs) (h1 : w1.ownsRow base 5 1 v1 (n + m) (zs.map (Value.int .u8) ++ bs.map (Value.int .u8)))
    (hg : (w.alloc o).grownBy w1 v.ownBlock) : RetI .u8 5 base v.ownBlock (zs ++ cs) w (.returned v1) w1 := by
  subst hn hm he
  refine ⟨v1, rfl, ?_, (World.grownBy_alloc w o _).trans hg⟩
  unfold OwnI
  rw [List.map_append, List.length_append]
  exact h1

set_option maxHeartbeats 400000 in
theorem push1 (base : Nat) (v : Value) (zs : List Int) (s : Int) (w : World) (ho : OwnI .u8 5 w base v zs) (hl : zs.length ≤ 140737488355320) (hb : base ≤ w.heap.size) (h0 : 0 ≤ s) (h1 : s < 128) :
    Calls Try.prog 27 #[v, .int .i64 s] w (RetI .u8 5 base v.ownBlock (zs ++ encL s) w) := by
  obtain ⟨i0, hi, hz0, hz1, hz2⟩ := info_parts info5
  have hsc : scB s = true := scB_t.2 (by omega)
  have hsz : szI s = 1 := by unfold szI; rw [hsc]; simp only [Bool.true_eq_false, if_false]; rw [if_pos (by omega)]
  have hen : Hid (encL s = [s]) := by unfold encL; rw [if_pos (by omega)]; exact rfl
  go_enter Try.func27, Try.ntmps27
  go_wp2_with (first
    | (go_at_call 12; refine (scalarU _ _).mono ?_; rintro e w' ⟨rfl, rfl⟩)
    | (go_at_call 13; refine (sizeU _ _).mono ?_; rintro e w' ⟨rfl, rfl⟩)
    | (go_at_call 32; refine (nextU _ _ (by omega) (by omega)).mono ?_; rintro e w' ⟨rfl, rfl⟩)
    | (at_builtin; refine wpList_app _ rfl _ _ 23 rfl base 5 i0 (.int .u8 0) 1 1 Try.underlying23 hi hz0 hz1 hz2 rfl (by decide) v _ _ rfl (World.ownsRow.alloc ho _) (w.heap.size + 1) _ 1 1 (([s] : List Int).map (Value.int .u8)) rfl rfl ?c1 ?c2 ?c3 ?c4 ?c5 ?_))
  case c1 => exact Rd_new w _ _
  case c2 => exact ints_one _ _
  case c3 => simp only [maxLen]; omega
  case c4 => omega
  case c5 => simp; omega
  intro v1 w1 hown1 hg1
  go_wp2
  go_ret
  exact push_end rfl rfl hen.out hown1 hg1

set_option maxHeartbeats 400000 in
theorem push2 (base : Nat) (v : Value) (zs : List Int) (s : Int) (w : World) (ho : OwnI .u8 5 w base v zs) (hl : zs.length ≤ 140737488355320) (hb : base ≤ w.heap.size) (h0 : 128 ≤ s) (h1 : s < 2048) :
    Calls Try.prog 27 #[v, .int .i64 s] w (RetI .u8 5 base v.ownBlock (zs ++ encL s) w) := by
  obtain ⟨i0, hi, hz0, hz1, hz2⟩ := info_parts info5
  have hsc : scB s = true := scB_t.2 (by omega)
  have hsz : szI s = 2 := by unfold szI; rw [hsc]; simp only [Bool.true_eq_false, if_false]; rw [if_neg (by omega), if_pos (by omega)]
  have hen : Hid (encL s = [192 + s / 64, 128 + s % 64]) := by unfold encL; rw [if_neg (by omega), if_pos (by omega)]; exact rfl
  have hor : bits .or .i64 192 (s / 64) = 192 + s / 64 := i64_join 5 _ _ (by omega) (by omega) (by omega) (by omega) rfl (by omega)
  have hwr : (192 + s / 64) % 256 = 192 + s / 64 := by omega
  go_enter Try.func27, Try.ntmps27
  go_wp2_with (first
    | (go_at_call 12; refine (scalarU _ _).mono ?_; rintro e w' ⟨rfl, rfl⟩)
    | (go_at_call 13; refine (sizeU _ _).mono ?_; rintro e w' ⟨rfl, rfl⟩)
    | (go_at_call 32; refine (nextU _ _ (by omega) (by omega)).mono ?_; rintro e w' ⟨rfl, rfl⟩)
    | (at_builtin; refine wpList_app _ rfl _ _ 23 rfl base 5 i0 (.int .u8 0) 1 1 Try.underlying23 hi hz0 hz1 hz2 rfl (by decide) v _ _ rfl (World.ownsRow.alloc ho _) (w.heap.size + 1) _ 2 2 (([192 + s / 64, 128 + s % 64] : List Int).map (Value.int .u8)) rfl rfl ?c1 ?c2 ?c3 ?c4 ?c5 ?_))
  case c1 => exact Rd_new w _ _
  case c2 => exact ints_one _ _
  case c3 => simp only [maxLen]; omega
  case c4 => omega
  case c5 => simp; omega
  intro v1 w1 hown1 hg1
  go_wp2
  go_ret
  exact push_end rfl rfl hen.out hown1 hg1

set_option maxHeartbeats 400000 in
theorem push3 (base : Nat) (v : Value) (zs : List Int) (s : Int) (w : World) (ho : OwnI .u8 5 w base v zs) (hl : zs.length ≤ 140737488355320) (hb : base ≤ w.heap.size) (h0 : 2048 ≤ s) (h1 : s < 65536) (h2 : scB s = true) :
    Calls Try.prog 27 #[v, .int .i64 s] w (RetI .u8 5 base v.ownBlock (zs ++ encL s) w) := by
  obtain ⟨i0, hi, hz0, hz1, hz2⟩ := info_parts info5
  have hsc := h2
  have hsz : szI s = 3 := by unfold szI; rw [hsc]; simp only [Bool.true_eq_false, if_false]; rw [if_neg (by omega), if_neg (by omega), if_pos (by omega)]
  have hen : Hid (encL s = [224 + s / 4096, 128 + s / 64 % 64, 128 + s % 64]) := by unfold encL; rw [if_neg (by omega), if_neg (by omega), if_pos (by omega)]; exact rfl
  have hor : bits .or .i64 224 (s / 4096) = 224 + s / 4096 := i64_join 4 _ _ (by omega) (by omega) (by omega) (by omega) rfl (by omega)
  have hwr : (224 + s / 4096) % 256 = 224 + s / 4096 := by omega
  go_enter Try.func27, Try.ntmps27
  go_wp2_with (first
    | (go_at_call 12; refine (scalarU _ _).mono ?_; rintro e w' ⟨rfl, rfl⟩)
    | (go_at_call 13; refine (sizeU _ _).mono ?_; rintro e w' ⟨rfl, rfl⟩)
    | (go_at_call 32; refine (nextU _ _ (by omega) (by omega)).mono ?_; rintro e w' ⟨rfl, rfl⟩)
    | (at_builtin; refine wpList_app _ rfl _ _ 23 rfl base 5 i0 (.int .u8 0) 1 1 Try.underlying23 hi hz0 hz1 hz2 rfl (by decide) v _ _ rfl (World.ownsRow.alloc ho _) (w.heap.size + 1) _ 3 3 (([224 + s / 4096, 128 + s / 64 % 64, 128 + s % 64] : List Int).map (Value.int .u8)) rfl rfl ?c1 ?c2 ?c3 ?c4 ?c5 ?_))
  case c1 => exact Rd_new w _ _
  case c2 => exact ints_one _ _
  case c3 => simp only [maxLen]; omega
  case c4 => omega
  case c5 => simp; omega
  intro v1 w1 hown1 hg1
  go_wp2
  go_ret
  exact push_end rfl rfl hen.out hown1 hg1

set_option maxHeartbeats 400000 in
theorem push4 (base : Nat) (v : Value) (zs : List Int) (s : Int) (w : World) (ho : OwnI .u8 5 w base v zs) (hl : zs.length ≤ 140737488355320) (hb : base ≤ w.heap.size) (h0 : 65536 ≤ s) (h1 : s < 1114112) (h2 : scB s = true) :
    Calls Try.prog 27 #[v, .int .i64 s] w (RetI .u8 5 base v.ownBlock (zs ++ encL s) w) := by
  obtain ⟨i0, hi, hz0, hz1, hz2⟩ := info_parts info5
  have hsc := h2
  have hsz : szI s = 4 := by unfold szI; rw [hsc]; simp only [Bool.true_eq_false, if_false]; rw [if_neg (by omega), if_neg (by omega), if_neg (by omega)]
  have hen : Hid (encL s = [240 + s / 262144, 128 + s / 4096 % 64, 128 + s / 64 % 64, 128 + s % 64]) := by unfold encL; rw [if_neg (by omega), if_neg (by omega), if_neg (by omega)]; exact rfl
  have hor : bits .or .i64 240 (s / 262144) = 240 + s / 262144 := i64_join 3 _ _ (by omega) (by omega) (by omega) (by omega) rfl (by omega)
  have hwr : (240 + s / 262144) % 256 = 240 + s / 262144 := by omega
  go_enter Try.func27, Try.ntmps27
  go_wp2_with (first
    | (go_at_call 12; refine (scalarU _ _).mono ?_; rintro e w' ⟨rfl, rfl⟩)
    | (go_at_call 13; refine (sizeU _ _).mono ?_; rintro e w' ⟨rfl, rfl⟩)
    | (go_at_call 32; refine (nextU _ _ (by omega) (by omega)).mono ?_; rintro e w' ⟨rfl, rfl⟩)
    | (at_builtin; refine wpList_app _ rfl _ _ 23 rfl base 5 i0 (.int .u8 0) 1 1 Try.underlying23 hi hz0 hz1 hz2 rfl (by decide) v _ _ rfl (World.ownsRow.alloc ho _) (w.heap.size + 1) _ 4 4 (([240 + s / 262144, 128 + s / 4096 % 64, 128 + s / 64 % 64, 128 + s % 64] : List Int).map (Value.int .u8)) rfl rfl ?c1 ?c2 ?c3 ?c4 ?c5 ?_))
  case c1 => exact Rd_new w _ _
  case c2 => exact ints_one _ _
  case c3 => simp only [maxLen]; omega
  case c4 => omega
  case c5 => simp; omega
  intro v1 w1 hown1 hg1
  go_wp2
  go_ret
  exact push_end rfl rfl hen.out hown1 hg1

set_option maxHeartbeats 400000 in
theorem push0 (base : Nat) (v : Value) (zs : List Int) (s : Int) (w : World) (ho : OwnI .u8 5 w base v zs) (hl : zs.length ≤ 140737488355320) (hb : base ≤ w.heap.size) (hsc : scB s = false) :
    Calls Try.prog 27 #[v, .int .i64 s] w (RetI .u8 5 base v.ownBlock (zs ++ encL 65533) w) := by
  obtain ⟨i0, hi, hz0, hz1, hz2⟩ := info_parts info5
  have hsz : szI 65533 = 3 := by decide
  have hen : Hid (encL 65533 = [239, 191, 189]) := (by decide : encL 65533 = [239, 191, 189])
  have hor : bits .or .i64 224 15 = 239 := by decide
  go_enter Try.func27, Try.ntmps27
  go_wp2_with (first
    | (go_at_call 12; refine (scalarU _ _).mono ?_; rintro e w' ⟨rfl, rfl⟩)
    | (go_at_call 13; refine (sizeU _ _).mono ?_; rintro e w' ⟨rfl, rfl⟩)
    | (go_at_call 32; refine (nextU _ _ (by omega) (by omega)).mono ?_; rintro e w' ⟨rfl, rfl⟩)
    | (at_builtin; refine wpList_app _ rfl _ _ 23 rfl base 5 i0 (.int .u8 0) 1 1 Try.underlying23 hi hz0 hz1 hz2 rfl (by decide) v _ _ rfl (World.ownsRow.alloc ho _) (w.heap.size + 1) _ 3 3 (([239, 191, 189] : List Int).map (Value.int .u8)) rfl rfl ?c1 ?c2 ?c3 ?c4 ?c5 ?_))
  case c1 => exact Rd_new w _ _
  case c2 => exact ints_one _ _
  case c3 => simp only [maxLen]; omega
  case c4 => omega
  case c5 => simp; omega
  intro v1 w1 hown1 hg1
  go_wp2
  go_ret
  exact push_end rfl rfl hen.out hown1 hg1

theorem push_any (base : Nat) (v : Value) (zs : List Int) (s : Int) (w : World) (ho : OwnI .u8 5 w base v zs) (hl : zs.length ≤ 140737488355320) (hb : base ≤ w.heap.size) :
    Calls Try.prog 27 #[v, .int .i64 s] w (RetI .u8 5 base v.ownBlock (zs ++ encL (fixS s)) w) := by
  cases hs : scB s
  · have hf : fixS s = 65533 := by simp [fixS, hs]
    rw [hf]
    exact push0 base v zs s w ho hl hb hs
  · have h := scB_t.1 hs
    have hf : fixS s = s := by simp [fixS, hs]
    rw [hf]
    by_cases h1 : s < 128
    · exact push1 base v zs s w ho hl hb (by omega) h1
    by_cases h2 : s < 2048
    · exact push2 base v zs s w ho hl hb (by omega) h2
    by_cases h3 : s < 65536
    · exact push3 base v zs s w ho hl hb (by omega) h3 hs
    · exact push4 base v zs s w ho hl hb (by omega) (by omega) hs

theorem fresh_end {w w1 w2 w3 : World} {n m : Nat} {e : TypeId} {v1 v2 : Value} {xs : List Value} (h1 : w.grownBy w1 none) (hv : v1.ownBlock = some w.heap.size) (h2 : w1.grownBy w2 v1.ownBlock) (hown : w2.ownsRow w.heap.size e m v2 n xs) (h3 : w2.grownBy w3 v2.ownBlock) : w.grownBy w3 none := by
  have hlo := hown.lt
  have g2 : w.grownBy w2 none := ⟨h2.os.trans h1.os, h2.tape.trans h1.tape, h2.output.trans h1.output, Nat.le_trans h1.size h2.size,
    fun k hk _ => (h2.block k (Nat.lt_of_lt_of_le hk h1.size) (by rw [hv]; intro e; injection e with e; omega)).trans (h1.block k hk (by simp))⟩
  exact ⟨h3.os.trans g2.os, h3.tape.trans g2.tape, h3.output.trans g2.output, Nat.le_trans g2.size h3.size,
    fun k hk _ => (h3.block k (Nat.lt_of_lt_of_le hk g2.size) (fun e => by have := (hlo k e.symm).1; omega)).trans (g2.block k hk (by simp))⟩

set_option maxHeartbeats 400000 in
/-- Put: a new row: what b holds, and the bytes behind it -/
theorem put_any (A : Option Addr) (cap : Nat) (zs : List Int) (s : Int) (w : World) (hr : Rd w w.heap.size A (zs.map (Value.int .u8))) (hl : zs.length ≤ 140737488355300) (hc : zs.length ≤ cap) :
    Calls Try.prog 14 #[.slice A zs.length cap, .int .i64 s] w (RetI .u8 5 w.heap.size none (zs ++ encL (fixS s)) w) := by
  obtain ⟨i0, hi, hz0, hz1, hz2⟩ := info_parts info5
  go_enter Try.func14, Try.ntmps14
  go_wp2_with (first
    | (refine wpList_make_own _ rfl _ _ 23 rfl w.heap.size 5 i0 (.int .u8 0) 1 Try.underlying23 hi hz0 hz1 .i64 .i64 _ (zs.length + 4) rfl rfl rfl (by rw [hz2]; omega) (by simp only [maxLen]; omega) (Nat.le_refl _) ?_; intro w1 hown1 hg1)
    | (at_builtin; refine wpList_app _ rfl _ _ 23 rfl w.heap.size 5 i0 (.int .u8 0) 1 1 Try.underlying23 hi hz0 hz1 hz2 rfl (by decide) _ _ _ rfl hown1 w.heap.size A zs.length cap (zs.map (Value.int .u8)) rfl (by simp) ?c1 (ints_one _ _) ?c3 ?c4 hg1.size ?_; rotate_right; intro v2 w2 hown2 hg2)
    | (go_at_call 27; refine (push_any w.heap.size _ zs _ _ ?p1 ?p2 ?p3).mono ?_; rotate_right; rintro e w3 ⟨v3, rfl, hown3, hg3⟩))
  case c1 => exact hr.below ((Below.refl _ _).grown hg1 (Nat.le_refl _) (by simp)) (Nat.le_refl _)
  case c3 => simp only [maxLen]; omega
  case c4 => omega
  case p1 => unfold OwnI; simpa using hown2
  case p2 => omega
  case p3 => exact Nat.le_trans hg1.size hg2.size
  go_ret
  refine ⟨v3, rfl, hown3, ?_⟩
  exact fresh_end hg1 rfl hg2 hown2 hg3
end Go.Proofs.Ytbigbkplhlmbmaa
