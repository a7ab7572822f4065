/- UtfOne: the walk. -/
import Derived.Test.YtbigbkplhlmbmaaLall
namespace Go.Proofs.Ytbigbkplhlmbmaa
set_option linter.unusedVariables false
open Go.RowKit

theorem arr_cells' {w : World} {g : Nat} {y0 y1 y2 y3 : Value} {t : TypeId} (hp : w.heap[g]? = some (.cells #[y0, y1, y2, y3] t (0, 0))) : w.cell? ⟨g, 0, none⟩ = some y0 ∧ w.cell? ⟨g, 1, none⟩ = some y1 ∧ w.cell? ⟨g, 2, none⟩ = some y2 ∧ w.cell? ⟨g, 3, none⟩ = some y3 := by
  refine ⟨?_, ?_, ?_, ?_⟩ <;> (rw [cell_of_row _ _ _ _ _ _ hp]; rfl)
theorem Rd.mono' {w : World} {B B' : Nat} {A : Option Addr} {xs : List Value} (h : Rd w B A xs) (hB : B ≤ B') : Rd w B' A xs := h.keep hB fun _ _ _ => rfl
set_option maxHeartbeats 3200000 in
theorem utfOne_any (a long : Int) (A : Option Addr) (cap : Nat) (zs : List Int) (w : World) (ha : 0 ≤ a ∧ a ≤ 4294967295) (hlo : 0 ≤ long ∧ long ≤ 255)
    (hr : Rd w w.heap.size A (zs.map (Value.int .u8))) (hc : zs.length ≤ cap) (hb : ∀ z ∈ zs, 0 ≤ z ∧ z ≤ 255) (hl : zs.length ≤ 140737488351232) :
    Calls Try.prog 4 #[.int .u32 a, .int .u8 long, .slice A zs.length cap] w fun e w' => e = .returned (.bool true) ∧ Below w.heap.size w w' := by
  obtain ⟨i0, hi, hz0, hz1, hz2⟩ := info_parts info5
  have HR := Lib.hid hr
  have HB := Lib.hid hb
  clear hr hb
  obtain ⟨L, hL⟩ : ∃ L : Nat, long % 4 = L := ⟨(long % 4).toNat, by omega⟩
  have hL3 : L ≤ 3 := by omega
  obtain ⟨xs, hxs⟩ : ∃ xs : List Int, xs = [a % 256, a / 256 % 256, a / 65536 % 256, a / 16777216] := ⟨_, rfl⟩
  have hxb : ∀ z ∈ xs, 0 ≤ z ∧ z ≤ 255 := by rw [hxs]; intro z hz; simp at hz; omega
  obtain ⟨y0, hy0⟩ : ∃ y : List Int, y = xs.take (1 + L) := ⟨_, rfl⟩
  have hy0l : 1 + L = y0.length := by rw [hy0, List.length_take, hxs]; simp; omega
  have hy0b : ∀ z ∈ y0, 0 ≤ z ∧ z ≤ 255 := fun z hz => hxb z (List.mem_of_mem_take (by rw [← hy0]; exact hz))
  have HXS := Lib.hid hxs
  have HY0 := Lib.hid hy0
  have HY0L := Lib.hid hy0l
  have HY0B := Lib.hid hy0b
  clear hxs hxb hy0 hy0l hy0b
  go_enter Try.func4, Try.ntmps4
  go_wp2_with fail
  refine (awake_any _).mono ?_
  rintro e w1 ⟨rfl, hb1⟩
  have hrx : Rd (w1.alloc (.cells #[.int .u8 (a % 256), .int .u8 (a / 256 % 256), .int .u8 (a / 65536 % 256), .int .u8 (a / 16777216)] 5)) (w1.heap.size + 1) (some ⟨w1.heap.size, 0, none⟩) (y0.map (Value.int .u8)) := by
    have h1 := (Rd_new w1 #[.int .u8 (a % 256), .int .u8 (a / 256 % 256), .int .u8 (a / 65536 % 256), .int .u8 (a / 16777216)] 5).take (1 + L)
    rw [HY0.out, HXS.out, List.map_take]
    exact h1
  have HRX := Lib.hid hrx
  have hbX := (Below.refl w1.heap.size w1).alloc (Nat.le_refl _) (.cells #[.int .u8 (a % 256), .int .u8 (a / 256 % 256), .int .u8 (a / 65536 % 256), .int .u8 (a / 16777216)] 5)
  clear hrx
  go_wp2_with (at_builtin; refine wpList_app _ rfl _ _ 23 rfl (w1.heap.size + 1) 5 i0 _ 1 1 Try.underlying23 hi hz0 hz1 hz2 rfl (by decide) _ _ _ rfl (World.ownsRow_nil _ _ _ _) (w1.heap.size + 1) (some ⟨w1.heap.size, 0, none⟩) (1 + L) 4 (y0.map (Value.int .u8)) rfl ?c0 HRX.out (ints_one _ _) ?c3 ?c4 ?c5 ?_)
  case c0 => have := HY0L.out; simp; omega
  case c3 => simp only [maxLen]; omega
  case c4 => omega
  case c5 => simp
  intro v3 w3 hown3 hg3
  have hb3 := (Below.refl (w1.heap.size + 1) _).grown hg3 (by simp) (by intro k hk; simp [Value.ownBlock] at hk)
  have hbB := hb1.trans ((hbX.mono hb1.size).trans (hb3.mono (by have := hb1.size; omega)))
  go_wp2_with (at_builtin; refine wpList_app _ rfl _ _ 23 rfl (w1.heap.size + 1) 5 i0 _ 1 1 Try.underlying23 hi hz0 hz1 hz2 rfl (by decide) _ _ _ rfl hown3 w3.heap.size A zs.length cap (zs.map (Value.int .u8)) rfl (by simp) (HR.out.below hbB hbB.size) (ints_one _ _) ?c3 ?c4 ?c5 ?_)
  case c3 => simp only [maxLen]; omega
  case c4 => omega
  case c5 => have := hb3.size; simp at this; omega
  intro v4 w4 hown4 hg4
  rw [← List.map_append] at hown4
  have hb4 := below_own hb3 hg4 hown3 (Nat.le_refl _) (by have := hb3.size; simp at this; omega)
  have hbC := hb1.trans ((hbX.mono hb1.size).trans (hb4.mono (by have := hb1.size; omega)))
  obtain ⟨A4, c4, rfl, hc4, hm4⟩ := own_form hown4
  have hr0 := HRX.out.below hb4 (Nat.le_refl _)
  have hr4 := Rd.own hown4
  have hsz4 : w1.heap.size + 1 ≤ w4.heap.size := by have := hb4.size; simp at this; omega
  have HR0 := Lib.hid (hr0.mono' hsz4)
  have HR4 := Lib.hid hr4
  clear hown3 hown4 hg3 hg4 hr0 hr4
  unfold maxLen at hm4
  go_wp2_with fail
  obtain ⟨W5, hW5⟩ : ∃ W5, W5 = w4.alloc (.cells #[.slice (some ⟨w1.heap.size, 0, none⟩) (1 + L) 4, .slice A zs.length cap, .slice A4 (1 + L + zs.length) c4, .slice none 0 0] 23) := ⟨_, rfl⟩
  obtain ⟨g, hg⟩ : ∃ g, g = w4.heap.size := ⟨_, rfl⟩
  rw [← hW5, ← hg]
  have hnw : W5.heap[g]? = some (.cells #[.slice (some ⟨w1.heap.size, 0, none⟩) (1 + L) 4, .slice A zs.length cap, .slice A4 (1 + L + zs.length) c4, .slice none 0 0] 23 (0, 0)) := by rw [hW5, hg]; exact heap_alloc_new w4 _
  obtain ⟨q0, q1, q2, q3⟩ := arr_cells' hnw
  have hb45 : Below w4.heap.size w4 W5 := by rw [hW5]; exact (Below.refl _ _).alloc (Nat.le_refl _) _
  have hb5 : Below w.heap.size w W5 := hbC.trans (hb45.mono hbC.size)
  have hg5 : g < W5.heap.size := by rw [hW5, hg]; simp
  have HR05 := Lib.hid (HR0.out.below hb45 hb45.size)
  have HR45 := Lib.hid (HR4.out.below hb45 hb45.size)
  have HQ0 := Lib.hid q0
  have HQ1 := Lib.hid q1
  have HQ2 := Lib.hid q2
  have HQ3 := Lib.hid q3
  clear hW5 hg hnw hbX hb3 hb4 hbB hbC q0 q1 q2 q3 HR0 HR4 HRX
  go_loopw [42] (fun i wr => ∃ k : Nat, k ≤ 4 ∧ i = .int .i64 k ∧ Below W5.heap.size W5 wr) (fun i _ => 4 - (intOf i).toNat)
  case atStart => exact ⟨0, by omega, rfl, Below.refl _ _⟩
  case round =>
    obtain ⟨k, hk, rfl, hbr⟩ := hrel
    have hbz := hb5.trans (hbr.mono hb5.size)
    by_cases hk4 : k = 4
    · subst hk4
      go_wp2
      go_ret
      exact ⟨rfl, hbz⟩
    have hcase : k = 0 ∨ k = 1 ∨ k = 2 ∨ k = 3 := by omega
    rcases hcase with rfl | rfl | rfl | rfl
    · have k1 := (hbr.cell (p := ⟨g, 0, none⟩) hg5).trans HQ0.out
      obtain ⟨s, n, e, ho⟩ : ∃ s n e, oneF y0 = (s, n, e) := ⟨_, _, _, rfl⟩
      have HO := Lib.hid ho
      have e1 : (s != s) = false := by simp
      have e2 : (n != n) = false := by simp
      have e3 : (e != e) = false := by simp
      clear ho hk4
      go_wp2_with fail
      refine (one_at (1 + L) _ _ y0 s n e _ HY0L.out (HR05.out.below hbr hbr.size) (by have := HY0L.out; omega) (by have := HY0L.out; omega) HY0B.out HO.out).mono ?_
      rintro en w6 ⟨rfl, hb6⟩
      go_wp2_with fail
      refine (lone_at (1 + L) _ _ y0 s n e _ HY0L.out ((HR05.out.below hbr hbr.size).below hb6 hb6.size) (by have := HY0L.out; omega) (by have := HY0L.out; omega) HY0B.out HO.out).mono ?_
      rintro en w7 ⟨rfl, hb7⟩
      go_wp2
      go_roundw
      case rel => exact ⟨0 + 1, by omega, by go_num, hbr.trans ((hb6.trans (hb7.mono hb6.size)).mono hbr.size)⟩
      case measure => simp [intOf]
    · have k1 := (hbr.cell (p := ⟨g, 1, none⟩) hg5).trans HQ1.out
      obtain ⟨s, n, e, ho⟩ : ∃ s n e, oneF zs = (s, n, e) := ⟨_, _, _, rfl⟩
      have HO := Lib.hid ho
      have e1 : (s != s) = false := by simp
      have e2 : (n != n) = false := by simp
      have e3 : (e != e) = false := by simp
      clear ho hk4
      go_wp2_with fail
      refine (one_at zs.length _ _ zs s n e _ rfl (HR.out.below hbz hbz.size) (by omega) hc HB.out HO.out).mono ?_
      rintro en w6 ⟨rfl, hb6⟩
      go_wp2_with fail
      refine (lone_at zs.length _ _ zs s n e _ rfl ((HR.out.below hbz hbz.size).below hb6 hb6.size) (by omega) hc HB.out HO.out).mono ?_
      rintro en w7 ⟨rfl, hb7⟩
      go_wp2
      go_roundw
      case rel => exact ⟨1 + 1, by omega, by go_num, hbr.trans ((hb6.trans (hb7.mono hb6.size)).mono hbr.size)⟩
      case measure => simp [intOf]
    · have k1 := (hbr.cell (p := ⟨g, 2, none⟩) hg5).trans HQ2.out
      obtain ⟨s, n, e, ho⟩ : ∃ s n e, oneF (y0 ++ zs) = (s, n, e) := ⟨_, _, _, rfl⟩
      have HO := Lib.hid ho
      have e1 : (s != s) = false := by simp
      have e2 : (n != n) = false := by simp
      have e3 : (e != e) = false := by simp
      clear ho hk4
      go_wp2_with fail
      refine (one_at (1 + L + zs.length) _ _ (y0 ++ zs) s n e _ (by rw [List.length_append, ← HY0L.out]) (HR45.out.below hbr hbr.size) (by have := HY0L.out; rw [List.length_append]; omega) (by have := HY0L.out; rw [List.length_append]; omega) (fun z hz => (List.mem_append.1 hz).elim (HY0B.out z) (HB.out z)) HO.out).mono ?_
      rintro en w6 ⟨rfl, hb6⟩
      go_wp2_with fail
      refine (lone_at (1 + L + zs.length) _ _ (y0 ++ zs) s n e _ (by rw [List.length_append, ← HY0L.out]) ((HR45.out.below hbr hbr.size).below hb6 hb6.size) (by have := HY0L.out; rw [List.length_append]; omega) (by have := HY0L.out; rw [List.length_append]; omega) (fun z hz => (List.mem_append.1 hz).elim (HY0B.out z) (HB.out z)) HO.out).mono ?_
      rintro en w7 ⟨rfl, hb7⟩
      go_wp2
      go_roundw
      case rel => exact ⟨2 + 1, by omega, by go_num, hbr.trans ((hb6.trans (hb7.mono hb6.size)).mono hbr.size)⟩
      case measure => simp [intOf]
    · have k1 := (hbr.cell (p := ⟨g, 3, none⟩) hg5).trans HQ3.out
      obtain ⟨s, n, e, ho⟩ : ∃ s n e, oneF [] = (s, n, e) := ⟨_, _, _, rfl⟩
      have HO := Lib.hid ho
      have e1 : (s != s) = false := by simp
      have e2 : (n != n) = false := by simp
      have e3 : (e != e) = false := by simp
      clear ho hk4
      go_wp2_with fail
      refine (one_at 0 _ _ [] s n e _ rfl Rd.nil (by simp) (by simp) (by simp) HO.out).mono ?_
      rintro en w6 ⟨rfl, hb6⟩
      go_wp2_with fail
      refine (lone_at 0 _ _ [] s n e _ rfl (Rd.nil) (by simp) (by simp) (by simp) HO.out).mono ?_
      rintro en w7 ⟨rfl, hb7⟩
      go_wp2
      go_roundw
      case rel => exact ⟨3 + 1, by omega, by go_num, hbr.trans ((hb6.trans (hb7.mono hb6.size)).mono hbr.size)⟩
      case measure => simp [intOf]
end Go.Proofs.Ytbigbkplhlmbmaa
