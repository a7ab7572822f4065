/- awake, and the law's own scalar, bytes of layer 1. -/
import Derived.Test.YtbigbkplhlmbmaaUtfD
namespace Go.Proofs.Ytbigbkplhlmbmaa
set_option linter.unusedVariables false
open Go.RowKit

theorem below_drewN (w : World) (n : Nat) : Below w.heap.size w (w.drewN n) := ⟨rfl, rfl, rfl, Nat.le_refl _, fun _ _ => rfl⟩
theorem one_at (n : Nat) (A : Option Addr) (cap : Nat) (zs : List Int) (s k e : Int) (w : World) (hn : n = zs.length) (hr : Rd w w.heap.size A (zs.map (Value.int .u8))) (hl : zs.length ≤ 140737488355300) (hc : zs.length ≤ cap) (hw : ∀ z ∈ zs, 0 ≤ z ∧ z ≤ 255) (hf : oneF zs = (s, k, e)) :
    Calls Try.prog 15 #[.slice A n cap] w fun en w' => en = .returned (.tuple #[.int .i64 s, .int .i64 k, .int .i64 e]) ∧ Below w.heap.size w w' := by
  subst hn
  refine (one_any A cap zs w hr hl hc hw).mono fun en w' h => ?_
  unfold RetOne at h
  rw [hf] at h
  obtain ⟨h, n, rfl⟩ := h
  exact ⟨h, below_drewN w n⟩
theorem Rd.drewN {w : World} {B : Nat} {A : Option Addr} {xs : List Value} (h : Rd w B A xs) (n : Nat) : Rd (w.drewN n) B A xs := h

theorem put_at (n : Nat) (A : Option Addr) (cap : Nat) (zs : List Int) (s : Int) (w : World) (hn : n = zs.length) (hr : Rd w w.heap.size A (zs.map (Value.int .u8))) (hl : zs.length ≤ 140737488355300) (hc : zs.length ≤ cap) {ys : List Int} (hy : zs ++ encL (fixS s) = ys) :
    Calls Try.prog 14 #[.slice A n cap, .int .i64 s] w (RetI .u8 5 w.heap.size none ys w) := by
  subst hn hy
  exact put_any A cap zs s w hr hl hc

set_option maxHeartbeats 800000 in
theorem awake_any (w : World) :
    Calls Try.prog 9 #[] w fun e w' => e = .returned (.bool true) ∧ Below w.heap.size w w' := by
  go_enter Try.func9, Try.ntmps9
  go_wp2_with fail
  refine (one_at 4 _ _ [224, 184, 129, 65] 3585 3 0 _ rfl (rd_new_ints _ _ _ _ _ rfl) (by simp) (by simp) (by decide) (by decide)).mono ?_
  rintro e w1 ⟨rfl, hb1⟩
  replace hb1 := ((Below.refl w.heap.size w).alloc (Nat.le_refl _) _).trans (hb1.mono (by simp))
  go_wp2_with fail
  refine (one_at 3 _ _ [225, 128, 65] 0 2 1 _ rfl (rd_new_ints _ _ _ _ _ rfl) (by simp) (by simp) (by decide) (by decide)).mono ?_
  rintro e w2 ⟨rfl, hb2⟩
  replace hb2 := (hb1.alloc hb1.size _).trans (hb2.mono (by have := hb1.size; simp; omega))
  clear hb1
  go_wp2_with fail
  refine (one_at 2 _ _ [240, 144] 0 2 2 _ rfl (rd_new_ints _ _ _ _ _ rfl) (by simp) (by simp) (by decide) (by decide)).mono ?_
  rintro e w3 ⟨rfl, hb3⟩
  replace hb3 := (hb2.alloc hb2.size _).trans (hb3.mono (by have := hb2.size; simp; omega))
  clear hb2
  go_wp2_with fail
  refine (put_at 0 _ _ [] 3585 _ rfl Rd.nil (by simp) (by simp) (ys := [224, 184, 129]) (by decide)).mono ?_
  rintro e w4 ⟨v4, rfl, hown4, hg4⟩
  obtain ⟨A4, c4, rfl, hc4, _⟩ : ∃ A c, v4 = .slice A 3 c ∧ 3 ≤ c ∧ c ≤ maxLen := own_form hown4
  have hb4 := hb3.grown hg4 hb3.size (by simp)
  have hcv := run_str (P := Try.prog) w4 23 9 5 Try.underlying23 Try.underlying5 Try.underlying9 _ A4 [224, 184, 129] 3 c4 rfl (Rd.own hown4)
  clear hc4 hb3
  go_wp2
  go_ret
  exact ⟨ret_bool (by decide +kernel), hb4⟩
end Go.Proofs.Ytbigbkplhlmbmaa
