/- TamilMoves: the walk. -/
import Derived.Test.YtamembaodpiggaaDoorZ4
import Derived.Test.YtamembaodpiggaaDoorZ5
import Derived.Test.YtamembaodpiggaaDoorZ1
import Derived.Test.YtamembaodpiggaaDoorZ15
import Derived.Test.YtamembaodpiggaaDoorZ13
namespace Go.Proofs.YtamembaodpiggaaDoor
set_option linter.unusedVariables false
set_option linter.unusedSimpArgs false
set_option linter.unnecessarySimpa false
open Go.RowKit
/-- where the six rows lie -/
def mvL (j : Nat) : Nat := if j < 3 then 2 else 3
def mvRow (N : Nat) : Array Value := #[.slice (some ⟨N, 0, none⟩) 2 2, .slice (some ⟨N + 1, 0, none⟩) 2 2, .slice (some ⟨N + 2, 0, none⟩) 2 2, .slice (some ⟨N + 3, 0, none⟩) 3 3, .slice (some ⟨N + 4, 0, none⟩) 3 3, .slice (some ⟨N + 5, 0, none⟩) 3 3]
def mvSt : Array Value := (mvS.map (Value.int .i64)).toArray
theorem mvRow_at (N j : Nat) (h : j < 6) : (mvRow N)[j]? = some (.slice (some ⟨N + j, 0, none⟩) (mvL j) (mvL j)) := by
  have : j = 0 ∨ j = 1 ∨ j = 2 ∨ j = 3 ∨ j = 4 ∨ j = 5 := by omega
  rcases this with rfl | rfl | rfl | rfl | rfl | rfl <;> rfl
theorem mvI_len (a j : Nat) (h : j < 6) : mvL j = (mvI a j).length := by
  have : j = 0 ∨ j = 1 ∨ j = 2 ∨ j = 3 ∨ j = 4 ∨ j = 5 := by omega
  rcases this with rfl | rfl | rfl | rfl | rfl | rfl <;> rfl
theorem mv_below (w8 : World) (a : Nat) : Below w8.heap.size w8 (((((((w8.alloc (.cells #[.int .i64 166, .int .i64 (176 + (a : Int))] 3)).alloc (.cells #[.int .i64 167, .int .i64 (176 + (a : Int))] 3)).alloc (.cells #[.int .i64 168, .int .i64 (176 + (a : Int))] 3)).alloc (.cells #[.int .i64 166, .int .i64 (176 + (a : Int)), .int .i64 170] 3)).alloc (.cells #[.int .i64 167, .int .i64 (176 + (a : Int)), .int .i64 170] 3)).alloc (.cells #[.int .i64 166, .int .i64 (176 + (a : Int)), .int .i64 175] 3)).alloc (.cells #[.slice (some ⟨w8.heap.size, 0, none⟩) 2 2, .slice (some ⟨w8.heap.size + 1, 0, none⟩) 2 2, .slice (some ⟨w8.heap.size + 1 + 1, 0, none⟩) 2 2, .slice (some ⟨w8.heap.size + 1 + 1 + 1, 0, none⟩) 3 3, .slice (some ⟨w8.heap.size + 1 + 1 + 1 + 1, 0, none⟩) 3 3, .slice (some ⟨w8.heap.size + 1 + 1 + 1 + 1 + 1, 0, none⟩) 3 3] 30)) := by
  repeat (refine Below.alloc ?_ (by simp; try omega) _)
  exact Below.refl _ _
theorem rd_held {w : World} {g n B : Nat} {us : List Int} {cs : Array Value} (h : Held w g cs 3) (hc : cs.toList = us.map (Value.int .i64)) (hg : g < B) : Rd w B (some ⟨g, 0, none⟩) (us.map (Value.int .i64)) :=
  .inr ⟨g, 0, rfl, hg, fun j _ => by rw [Nat.zero_add, h.cell j, ← hc, Array.getElem?_toList]⟩
theorem mv_rd (w8 : World) (a j : Nat) (h : j < 6) : Rd (((((((w8.alloc (.cells #[.int .i64 166, .int .i64 (176 + (a : Int))] 3)).alloc (.cells #[.int .i64 167, .int .i64 (176 + (a : Int))] 3)).alloc (.cells #[.int .i64 168, .int .i64 (176 + (a : Int))] 3)).alloc (.cells #[.int .i64 166, .int .i64 (176 + (a : Int)), .int .i64 170] 3)).alloc (.cells #[.int .i64 167, .int .i64 (176 + (a : Int)), .int .i64 170] 3)).alloc (.cells #[.int .i64 166, .int .i64 (176 + (a : Int)), .int .i64 175] 3)).alloc (.cells #[.slice (some ⟨w8.heap.size, 0, none⟩) 2 2, .slice (some ⟨w8.heap.size + 1, 0, none⟩) 2 2, .slice (some ⟨w8.heap.size + 1 + 1, 0, none⟩) 2 2, .slice (some ⟨w8.heap.size + 1 + 1 + 1, 0, none⟩) 3 3, .slice (some ⟨w8.heap.size + 1 + 1 + 1 + 1, 0, none⟩) 3 3, .slice (some ⟨w8.heap.size + 1 + 1 + 1 + 1 + 1, 0, none⟩) 3 3] 30)) (w8.heap.size + 6) (some ⟨w8.heap.size + j, 0, none⟩) ((mvI a j).map (Value.int .i64)) := by
  have hk : ∀ (w : World) (cs : Array Value) (N : Nat), w.heap.size = N → Held (w.alloc (.cells cs 3)) N cs 3 := fun w cs N hN => by subst hN; exact Held.new w cs _
  have : j = 0 ∨ j = 1 ∨ j = 2 ∨ j = 3 ∨ j = 4 ∨ j = 5 := by omega
  rcases this with rfl | rfl | rfl | rfl | rfl | rfl
  · exact rd_held (n := 0) (((((((hk w8 _ (w8.heap.size + 0) (by simp)).alloc _).alloc _).alloc _).alloc _).alloc _).alloc _) rfl (by omega)
  · exact rd_held (n := 0) ((((((hk (w8.alloc (.cells #[.int .i64 166, .int .i64 (176 + (a : Int))] 3)) _ (w8.heap.size + 1) (by simp)).alloc _).alloc _).alloc _).alloc _).alloc _) rfl (by omega)
  · exact rd_held (n := 0) (((((hk ((w8.alloc (.cells #[.int .i64 166, .int .i64 (176 + (a : Int))] 3)).alloc (.cells #[.int .i64 167, .int .i64 (176 + (a : Int))] 3)) _ (w8.heap.size + 2) (by simp)).alloc _).alloc _).alloc _).alloc _) rfl (by omega)
  · exact rd_held (n := 0) ((((hk (((w8.alloc (.cells #[.int .i64 166, .int .i64 (176 + (a : Int))] 3)).alloc (.cells #[.int .i64 167, .int .i64 (176 + (a : Int))] 3)).alloc (.cells #[.int .i64 168, .int .i64 (176 + (a : Int))] 3)) _ (w8.heap.size + 3) (by simp)).alloc _).alloc _).alloc _) rfl (by omega)
  · exact rd_held (n := 0) (((hk ((((w8.alloc (.cells #[.int .i64 166, .int .i64 (176 + (a : Int))] 3)).alloc (.cells #[.int .i64 167, .int .i64 (176 + (a : Int))] 3)).alloc (.cells #[.int .i64 168, .int .i64 (176 + (a : Int))] 3)).alloc (.cells #[.int .i64 166, .int .i64 (176 + (a : Int)), .int .i64 170] 3)) _ (w8.heap.size + 4) (by simp)).alloc _).alloc _) rfl (by omega)
  · exact rd_held (n := 0) ((hk (((((w8.alloc (.cells #[.int .i64 166, .int .i64 (176 + (a : Int))] 3)).alloc (.cells #[.int .i64 167, .int .i64 (176 + (a : Int))] 3)).alloc (.cells #[.int .i64 168, .int .i64 (176 + (a : Int))] 3)).alloc (.cells #[.int .i64 166, .int .i64 (176 + (a : Int)), .int .i64 170] 3)).alloc (.cells #[.int .i64 167, .int .i64 (176 + (a : Int)), .int .i64 170] 3)) _ (w8.heap.size + 5) (by simp)).alloc _) rfl (by omega)
set_option maxRecDepth 100000 in
set_option maxHeartbeats 12800000 in
theorem tamilMoves_any (I : TamApi) (k v : Int) (A : Option Addr) (n c : Nat) (w : World) (hI : I.OK w) (hk : 0 ≤ k ∧ k ≤ 255) (hv : 0 ≤ v ∧ v ≤ 255) :
    Calls Tryd.prog 6 #[.int .u8 k, .int .u8 v, .slice A n c] w fun e w' => e = .returned (.bool true) ∧ Below w.heap.size w w' := by
  obtain ⟨hk0, hk1⟩ := hk
  obtain ⟨hv0, hv1⟩ := hv
  obtain ⟨a, ha⟩ : ∃ a : Nat, k.toNat % 22 = a := ⟨_, rfl⟩
  obtain ⟨j, hj⟩ : ∃ j : Nat, v.toNat % 6 = j := ⟨_, rfl⟩
  have ha2 : a < 22 := by rw [← ha]; exact Nat.mod_lt _ (by decide)
  have hj2 : j < 6 := by rw [← hj]; exact Nat.mod_lt _ (by decide)
  have hka : k % 22 = (a : Int) := rem_nat hk0 ha
  have hvj : v % 6 = (j : Int) := rem_nat hv0 hj
  have hwa : IntKind.i64.wrap (a : Int) = a := wrap_low a (by omega)
  have hw1 : wrap64 (176 + (a : Int)) = 176 + a := wrap_lowC 176 a (by decide) (by omega)
  have a0 : (0 : Int) ≤ a := Int.natCast_nonneg a
  have a1 : (a : Int) < 22 := Int.ofNat_lt.2 ha2
  have j0 : (0 : Int) ≤ j := Int.natCast_nonneg j
  have j1 : (j : Int) < 6 := Int.ofNat_lt.2 hj2
  clear ha hj
  obtain ⟨s, hs⟩ : ∃ s, tmCon a = s := ⟨_, rfl⟩
  obtain ⟨u, hu⟩ : ∃ u, mvS.getD j 0 = u := ⟨_, rfl⟩
  obtain ⟨rs, hrs⟩ : ∃ rs, tmR = rs := ⟨_, rfl⟩
  have hlen : rs.length = 327 := by rw [← hrs]; exact tmR_len
  have HL := Lib.hid hlen
  have HI := Lib.hid hI
  clear hlen hI
  have HCK : Hid (checkR rs = (-1, 0)) := by show _ = _; rw [← hrs]; exact tmR_right
  have HCL : Hid (closedR rs = true) := by show _ = _; rw [← hrs]; exact tmR_closed
  have hmo : mvO a j = [s, u] := by unfold mvO; rw [hs, hu]
  have hde := mv_dec a j ha2 hj2
  have hen := mv_enc a j ha2 hj2
  rw [hrs, hmo, ← mvI_len a j hj2] at hde
  rw [hrs, hmo] at hen
  have HDE := Lib.hid hde
  have HEN := Lib.hid hen
  have HIL := Lib.hid (mvI_len a j hj2)
  have hmL : mvL j ≤ 3 := by unfold mvL; split <;> omega
  have HS := Lib.hid hs
  have HU := Lib.hid hu
  clear hs hu hmo hde hen
  go_enter Tryd.func6, Tryd.ntmps6
  go_wp2_with fail
  refine (awake17_any I w HI.out).mono ?_
  rintro e w1 ⟨rfl, hb1⟩
  have HI1 := Lib.hid (I.keep HI.out hb1)
  have HB1 := Lib.hid hb1
  have hs1 := hb1.size
  clear hb1 HI
  have R1 := Lib.hid (I.rules w1 HI1.out)
  rw [hrs] at R1
  clear hrs
  go_wp2_with fail
  refine R1.out.mono ?_
  rintro e w2 ⟨v2, rfl, ho2, hb2⟩
  obtain ⟨A2, c2, rfl, hat2⟩ := ho2.form
  rw [HL.out] at hat2 ⊢
  have HAT2 := Lib.hid hat2
  have HB2 := Lib.hid (HB1.out.trans (hb2.mono hs1))
  have HI2 := Lib.hid (I.keep HI1.out hb2)
  have hs2 := HB2.out.size
  clear ho2 hat2 hb2 R1 HI1
  go_wp2_with fail
  refine (tab_of_ok 327 A2 c2 rs w2.heap.size w2 HAT2.out (Nat.le_refl _) (by decide) HCK.out HCL.out).mono ?_
  rintro e w3 ⟨T, rfl, ho, hb3⟩
  have hs3 := hb3.size
  have HO := Lib.hid ho
  have HAT3 := Lib.hid (HAT2.out.below hb3 hs3)
  have HB3 := Lib.hid (HB2.out.trans (hb3.mono hs2))
  have HI3 := Lib.hid (I.keep HI2.out hb3)
  have hsE := HB3.out.size
  clear ho hb3 HAT2 HB2 HI2
  have hd3 : Below w3.heap.size w3 w3.drew := (Below.refl _ _).drew
  have ct : (w3.drew.alloc (.cells tmCt 3)).cell? ⟨w3.heap.size, a, none⟩ = some (.int .i64 s) := by
    have h := (Held.new w3.drew tmCt 3).cell a
    rw [show tmCt[a]? = some (.int .i64 (tmC.getD a 0)) from tab_ints tmC a ha2, show tmC.getD a 0 = s from HS.out] at h
    exact h
  have CT := Lib.hid ct
  clear ct
  go_upto_region 6 with fail
  refine wp_region_mixe (G := fun w w' => Below w.heap.size w w') [(0, false), (1, false), (2, false), (3, false), (5, false), (6, false), (4, true), (7, false), (8, false), (9, false), (10, false)]
    below_refl below_trans (by kernel_rfl) rfl (by kernel_rfl) (by kernel_rfl) ?_
  iterate 6 (refine mixe_one rfl rfl ?_; go_big_quiet_step ((intro _; rfl)); refine wpQuiet_nil ?_)
  refine mixe_call rfl ?_
  go_wp2_with fail
  refine (lcons_any w3.drew).mono ?_
  rintro e w8 ⟨rfl, hw8⟩
  have hb8 : Below w3.heap.size w3 w8 := by rw [hw8]; exact hd3.trans (below_allocT w3.drew _)
  have hbd : Below w3.drew.heap.size w3.drew w8 := by rw [hw8]; exact below_allocT w3.drew _
  have hlt8 : w3.heap.size < w8.heap.size := by rw [hw8]; simp
  have CT8 : Hid (w8.cell? ⟨w3.heap.size, a, none⟩ = some (.int .i64 s)) := by rw [hw8]; exact CT
  have HBD := Lib.hid hbd
  have HB38 := Lib.hid hb8
  clear hw8 hb8 hbd hd3 CT
  go_wp2_with fail
  refine ⟨HBD.out, ?_⟩
  refine mixe_one rfl rfl ?_
  go_big_quiet_step ((intro _; rfl))
  refine wpQuiet_nil ?_
  refine mixe_one rfl rfl ?_
  go_big_quiet_step ((intro hh; rw [(hh.cell (p := ⟨w3.heap.size, a, none⟩) hlt8).trans CT8.out]; exact ⟨rfl, rfl⟩))
  refine wpQuiet_nil ?_
  iterate 2 (refine mixe_one rfl rfl ?_; go_big_quiet_step ((intro _; rfl)); refine wpQuiet_nil ?_)
  refine NoPanic.normal ?_
  have hrT : ∀ h : j < [.slice (some ⟨w8.heap.size, 0, none⟩) 2 2, .slice (some ⟨w8.heap.size + 1, 0, none⟩) 2 2, .slice (some ⟨w8.heap.size + 1 + 1, 0, none⟩) 2 2, .slice (some ⟨w8.heap.size + 1 + 1 + 1, 0, none⟩) 3 3, .slice (some ⟨w8.heap.size + 1 + 1 + 1 + 1, 0, none⟩) 3 3, .slice (some ⟨w8.heap.size + 1 + 1 + 1 + 1 + 1, 0, none⟩) 3 3].length, ([.slice (some ⟨w8.heap.size, 0, none⟩) 2 2, .slice (some ⟨w8.heap.size + 1, 0, none⟩) 2 2, .slice (some ⟨w8.heap.size + 1 + 1, 0, none⟩) 2 2, .slice (some ⟨w8.heap.size + 1 + 1 + 1, 0, none⟩) 3 3, .slice (some ⟨w8.heap.size + 1 + 1 + 1 + 1, 0, none⟩) 3 3, .slice (some ⟨w8.heap.size + 1 + 1 + 1 + 1 + 1, 0, none⟩) 3 3] : List Value)[j]'h = .slice (some ⟨w8.heap.size + j, 0, none⟩) (mvL j) (mvL j) := fun h => by
    have : j = 0 ∨ j = 1 ∨ j = 2 ∨ j = 3 ∨ j = 4 ∨ j = 5 := by omega
    rcases this with rfl | rfl | rfl | rfl | rfl | rfl <;> rfl
  have hsT : ∀ h : j < [.int .i64 3014, .int .i64 3015, .int .i64 3016, .int .i64 3018, .int .i64 3019, .int .i64 3020].length, ([.int .i64 3014, .int .i64 3015, .int .i64 3016, .int .i64 3018, .int .i64 3019, .int .i64 3020] : List Value)[j]'h = .int .i64 u := fun h => by
    rw [← HU.out]
    have : j = 0 ∨ j = 1 ∨ j = 2 ∨ j = 3 ∨ j = 4 ∨ j = 5 := by omega
    rcases this with rfl | rfl | rfl | rfl | rfl | rfl <;> rfl
  have hb9 : Below w8.heap.size w8 (((((((((w8.alloc (.cells #[.int .i64 166, .int .i64 (176 + (a : Int))] 3)).alloc (.cells #[.int .i64 167, .int .i64 (176 + (a : Int))] 3)).alloc (.cells #[.int .i64 168, .int .i64 (176 + (a : Int))] 3)).alloc (.cells #[.int .i64 166, .int .i64 (176 + (a : Int)), .int .i64 170] 3)).alloc (.cells #[.int .i64 167, .int .i64 (176 + (a : Int)), .int .i64 170] 3)).alloc (.cells #[.int .i64 166, .int .i64 (176 + (a : Int)), .int .i64 175] 3)).alloc (.cells #[.slice (some ⟨w8.heap.size, 0, none⟩) 2 2, .slice (some ⟨w8.heap.size + 1, 0, none⟩) 2 2, .slice (some ⟨w8.heap.size + 1 + 1, 0, none⟩) 2 2, .slice (some ⟨w8.heap.size + 1 + 1 + 1, 0, none⟩) 3 3, .slice (some ⟨w8.heap.size + 1 + 1 + 1 + 1, 0, none⟩) 3 3, .slice (some ⟨w8.heap.size + 1 + 1 + 1 + 1 + 1, 0, none⟩) 3 3] 30)).alloc (.cells #[.int .i64 3014, .int .i64 3015, .int .i64 3016, .int .i64 3018, .int .i64 3019, .int .i64 3020] 3)).alloc (.cells #[.int .i64 s, .int .i64 u] 3)) := ((mv_below w8 a).alloc (by simp; omega) _).alloc (by simp; omega) _
  have hrI : Rd (((((((((w8.alloc (.cells #[.int .i64 166, .int .i64 (176 + (a : Int))] 3)).alloc (.cells #[.int .i64 167, .int .i64 (176 + (a : Int))] 3)).alloc (.cells #[.int .i64 168, .int .i64 (176 + (a : Int))] 3)).alloc (.cells #[.int .i64 166, .int .i64 (176 + (a : Int)), .int .i64 170] 3)).alloc (.cells #[.int .i64 167, .int .i64 (176 + (a : Int)), .int .i64 170] 3)).alloc (.cells #[.int .i64 166, .int .i64 (176 + (a : Int)), .int .i64 175] 3)).alloc (.cells #[.slice (some ⟨w8.heap.size, 0, none⟩) 2 2, .slice (some ⟨w8.heap.size + 1, 0, none⟩) 2 2, .slice (some ⟨w8.heap.size + 1 + 1, 0, none⟩) 2 2, .slice (some ⟨w8.heap.size + 1 + 1 + 1, 0, none⟩) 3 3, .slice (some ⟨w8.heap.size + 1 + 1 + 1 + 1, 0, none⟩) 3 3, .slice (some ⟨w8.heap.size + 1 + 1 + 1 + 1 + 1, 0, none⟩) 3 3] 30)).alloc (.cells #[.int .i64 3014, .int .i64 3015, .int .i64 3016, .int .i64 3018, .int .i64 3019, .int .i64 3020] 3)).alloc (.cells #[.int .i64 s, .int .i64 u] 3)) (w8.heap.size + 6) (some ⟨w8.heap.size + j, 0, none⟩) ((mvI a j).map (Value.int .i64)) :=
    (mv_rd w8 a j hj2).below (((Below.refl _ _).alloc (by simp) _).alloc (by simp) _) (Nat.le_refl _)
  have hrO : Rd (((((((((w8.alloc (.cells #[.int .i64 166, .int .i64 (176 + (a : Int))] 3)).alloc (.cells #[.int .i64 167, .int .i64 (176 + (a : Int))] 3)).alloc (.cells #[.int .i64 168, .int .i64 (176 + (a : Int))] 3)).alloc (.cells #[.int .i64 166, .int .i64 (176 + (a : Int)), .int .i64 170] 3)).alloc (.cells #[.int .i64 167, .int .i64 (176 + (a : Int)), .int .i64 170] 3)).alloc (.cells #[.int .i64 166, .int .i64 (176 + (a : Int)), .int .i64 175] 3)).alloc (.cells #[.slice (some ⟨w8.heap.size, 0, none⟩) 2 2, .slice (some ⟨w8.heap.size + 1, 0, none⟩) 2 2, .slice (some ⟨w8.heap.size + 1 + 1, 0, none⟩) 2 2, .slice (some ⟨w8.heap.size + 1 + 1 + 1, 0, none⟩) 3 3, .slice (some ⟨w8.heap.size + 1 + 1 + 1 + 1, 0, none⟩) 3 3, .slice (some ⟨w8.heap.size + 1 + 1 + 1 + 1 + 1, 0, none⟩) 3 3] 30)).alloc (.cells #[.int .i64 3014, .int .i64 3015, .int .i64 3016, .int .i64 3018, .int .i64 3019, .int .i64 3020] 3)).alloc (.cells #[.int .i64 s, .int .i64 u] 3)) (w8.heap.size + 9) (some ⟨w8.heap.size + 8, 0, none⟩) (([s, u] : List Int).map (Value.int .i64)) := by
    have h := rd_new_ints ((((((((w8.alloc (.cells #[.int .i64 166, .int .i64 (176 + (a : Int))] 3)).alloc (.cells #[.int .i64 167, .int .i64 (176 + (a : Int))] 3)).alloc (.cells #[.int .i64 168, .int .i64 (176 + (a : Int))] 3)).alloc (.cells #[.int .i64 166, .int .i64 (176 + (a : Int)), .int .i64 170] 3)).alloc (.cells #[.int .i64 167, .int .i64 (176 + (a : Int)), .int .i64 170] 3)).alloc (.cells #[.int .i64 166, .int .i64 (176 + (a : Int)), .int .i64 175] 3)).alloc (.cells #[.slice (some ⟨w8.heap.size, 0, none⟩) 2 2, .slice (some ⟨w8.heap.size + 1, 0, none⟩) 2 2, .slice (some ⟨w8.heap.size + 1 + 1, 0, none⟩) 2 2, .slice (some ⟨w8.heap.size + 1 + 1 + 1, 0, none⟩) 3 3, .slice (some ⟨w8.heap.size + 1 + 1 + 1 + 1, 0, none⟩) 3 3, .slice (some ⟨w8.heap.size + 1 + 1 + 1 + 1 + 1, 0, none⟩) 3 3] 30)).alloc (.cells #[.int .i64 3014, .int .i64 3015, .int .i64 3016, .int .i64 3018, .int .i64 3019, .int .i64 3020] 3)) .i64 [s, u] 3 #[.int .i64 s, .int .i64 u] rfl
    simpa using h
  have hb39 : Below w3.heap.size w3 (((((((((w8.alloc (.cells #[.int .i64 166, .int .i64 (176 + (a : Int))] 3)).alloc (.cells #[.int .i64 167, .int .i64 (176 + (a : Int))] 3)).alloc (.cells #[.int .i64 168, .int .i64 (176 + (a : Int))] 3)).alloc (.cells #[.int .i64 166, .int .i64 (176 + (a : Int)), .int .i64 170] 3)).alloc (.cells #[.int .i64 167, .int .i64 (176 + (a : Int)), .int .i64 170] 3)).alloc (.cells #[.int .i64 166, .int .i64 (176 + (a : Int)), .int .i64 175] 3)).alloc (.cells #[.slice (some ⟨w8.heap.size, 0, none⟩) 2 2, .slice (some ⟨w8.heap.size + 1, 0, none⟩) 2 2, .slice (some ⟨w8.heap.size + 1 + 1, 0, none⟩) 2 2, .slice (some ⟨w8.heap.size + 1 + 1 + 1, 0, none⟩) 3 3, .slice (some ⟨w8.heap.size + 1 + 1 + 1 + 1, 0, none⟩) 3 3, .slice (some ⟨w8.heap.size + 1 + 1 + 1 + 1 + 1, 0, none⟩) 3 3] 30)).alloc (.cells #[.int .i64 3014, .int .i64 3015, .int .i64 3016, .int .i64 3018, .int .i64 3019, .int .i64 3020] 3)).alloc (.cells #[.int .i64 s, .int .i64 u] 3)) := HB38.out.trans (hb9.mono HB38.out.size)
  have hsz9 : (((((((((w8.alloc (.cells #[.int .i64 166, .int .i64 (176 + (a : Int))] 3)).alloc (.cells #[.int .i64 167, .int .i64 (176 + (a : Int))] 3)).alloc (.cells #[.int .i64 168, .int .i64 (176 + (a : Int))] 3)).alloc (.cells #[.int .i64 166, .int .i64 (176 + (a : Int)), .int .i64 170] 3)).alloc (.cells #[.int .i64 167, .int .i64 (176 + (a : Int)), .int .i64 170] 3)).alloc (.cells #[.int .i64 166, .int .i64 (176 + (a : Int)), .int .i64 175] 3)).alloc (.cells #[.slice (some ⟨w8.heap.size, 0, none⟩) 2 2, .slice (some ⟨w8.heap.size + 1, 0, none⟩) 2 2, .slice (some ⟨w8.heap.size + 1 + 1, 0, none⟩) 2 2, .slice (some ⟨w8.heap.size + 1 + 1 + 1, 0, none⟩) 3 3, .slice (some ⟨w8.heap.size + 1 + 1 + 1 + 1, 0, none⟩) 3 3, .slice (some ⟨w8.heap.size + 1 + 1 + 1 + 1 + 1, 0, none⟩) 3 3] 30)).alloc (.cells #[.int .i64 3014, .int .i64 3015, .int .i64 3016, .int .i64 3018, .int .i64 3019, .int .i64 3020] 3)).alloc (.cells #[.int .i64 s, .int .i64 u] 3)).heap.size = w8.heap.size + 9 := by simp
  have D1 := Lib.hid (tab_decode (((((((((w8.alloc (.cells #[.int .i64 166, .int .i64 (176 + (a : Int))] 3)).alloc (.cells #[.int .i64 167, .int .i64 (176 + (a : Int))] 3)).alloc (.cells #[.int .i64 168, .int .i64 (176 + (a : Int))] 3)).alloc (.cells #[.int .i64 166, .int .i64 (176 + (a : Int)), .int .i64 170] 3)).alloc (.cells #[.int .i64 167, .int .i64 (176 + (a : Int)), .int .i64 170] 3)).alloc (.cells #[.int .i64 166, .int .i64 (176 + (a : Int)), .int .i64 175] 3)).alloc (.cells #[.slice (some ⟨w8.heap.size, 0, none⟩) 2 2, .slice (some ⟨w8.heap.size + 1, 0, none⟩) 2 2, .slice (some ⟨w8.heap.size + 1 + 1, 0, none⟩) 2 2, .slice (some ⟨w8.heap.size + 1 + 1 + 1, 0, none⟩) 3 3, .slice (some ⟨w8.heap.size + 1 + 1 + 1 + 1, 0, none⟩) 3 3, .slice (some ⟨w8.heap.size + 1 + 1 + 1 + 1 + 1, 0, none⟩) 3 3] 30)).alloc (.cells #[.int .i64 3014, .int .i64 3015, .int .i64 3016, .int .i64 3018, .int .i64 3019, .int .i64 3020] 3)).alloc (.cells #[.int .i64 s, .int .i64 u] 3)) w3.heap.size T rs (HO.out.below hb39 (Nat.le_refl _)) hb39.size (mvL j) (some ⟨w8.heap.size + j, 0, none⟩) (mvL j) (mvI a j) (w8.heap.size + 6) HIL.out hrI (by rw [hsz9]; omega) (Nat.le_refl _) (by unfold maxLen; omega) (by omega) _ HDE.out)
  have HB39 := Lib.hid hb39
  have HRI := Lib.hid hrI
  have HRO := Lib.hid hrO
  have HSZ9 := Lib.hid hsz9
  clear hb9 hrI hrO hb39 hsz9 HB38
  go_wp2_with fail
  refine D1.out.mono ?_
  rintro e w10 ⟨v10, rfl, ho10, hb10⟩
  obtain ⟨w9, hw9⟩ : ∃ w9, (((((((((w8.alloc (.cells #[.int .i64 166, .int .i64 (176 + (a : Int))] 3)).alloc (.cells #[.int .i64 167, .int .i64 (176 + (a : Int))] 3)).alloc (.cells #[.int .i64 168, .int .i64 (176 + (a : Int))] 3)).alloc (.cells #[.int .i64 166, .int .i64 (176 + (a : Int)), .int .i64 170] 3)).alloc (.cells #[.int .i64 167, .int .i64 (176 + (a : Int)), .int .i64 170] 3)).alloc (.cells #[.int .i64 166, .int .i64 (176 + (a : Int)), .int .i64 175] 3)).alloc (.cells #[.slice (some ⟨w8.heap.size, 0, none⟩) 2 2, .slice (some ⟨w8.heap.size + 1, 0, none⟩) 2 2, .slice (some ⟨w8.heap.size + 1 + 1, 0, none⟩) 2 2, .slice (some ⟨w8.heap.size + 1 + 1 + 1, 0, none⟩) 3 3, .slice (some ⟨w8.heap.size + 1 + 1 + 1 + 1, 0, none⟩) 3 3, .slice (some ⟨w8.heap.size + 1 + 1 + 1 + 1 + 1, 0, none⟩) 3 3] 30)).alloc (.cells #[.int .i64 3014, .int .i64 3015, .int .i64 3016, .int .i64 3018, .int .i64 3019, .int .i64 3020] 3)).alloc (.cells #[.int .i64 s, .int .i64 u] 3)) = w9 := ⟨_, rfl⟩
  have hb39 := HB39.out
  have hrI := HRI.out
  have hrO := HRO.out
  have hsz9 := HSZ9.out
  rw [hw9] at hb39 hrI hrO hsz9 hb10 ho10
  obtain ⟨A10, c10, rfl, hat10⟩ := ho10.form
  have hb310 := hb39.trans (hb10.mono hb39.size)
  have hs9 : w8.heap.size + 9 ≤ w9.heap.size := Nat.le_of_eq hsz9.symm
  have hs10 := hb10.size
  have U1 := Lib.hid (unitsT_any 1 A10 c10 _ w10.heap.size w10 hat10 (Nat.le_refl _) (by simp [outsT]) [s, u] ⟨0, 0, [], 0⟩ 2 0 rfl rfl rfl rfl)
  have HB310 := Lib.hid hb310
  have HRI10 := Lib.hid (hrI.below (hb10.mono (show w8.heap.size + 6 ≤ w9.heap.size by omega)) (Nat.le_refl _))
  have HRO10 := Lib.hid (hrO.below (hb10.mono (show w8.heap.size + 9 ≤ w9.heap.size by omega)) (Nat.le_refl _))
  have hN : w8.heap.size + 9 ≤ w10.heap.size := by omega
  clear hw9 hb39 hrI hrO hsz9 hb10 ho10 hat10 hb310 D1 HB39 HRI HRO HSZ9 hs10 hs9 w9
  simp only [List.length_cons, List.length_nil]
  go_wp2_with fail
  refine U1.out.mono ?_
  rintro e w11 ⟨A11, c11, A12, c12, rfl, hu11, -, hb11⟩
  obtain ⟨-, r1, r2, r3⟩ := hu11.rd
  have hs11 := hb11.size
  have hbx : Below w11.heap.size w11 (w11.alloc (.cells #[.int .i64 0, .int .i64 0, .slice A12 0 c12, .int .i64 0] 47)) := (Below.refl _ _).alloc (Nat.le_refl _) _
  have hx1 := Held.new w11 #[.int .i64 0, .int .i64 0, .slice A12 0 c12, .int .i64 0] 47
  obtain ⟨w12, hw12⟩ : ∃ w12, w11.alloc (.cells #[.int .i64 0, .int .i64 0, .slice A12 0 c12, .int .i64 0] 47) = w12 := ⟨_, rfl⟩
  obtain ⟨X1, hX1⟩ : ∃ X1, w11.heap.size = X1 := ⟨_, rfl⟩
  rw [hw12] at hbx hx1
  rw [hX1] at hx1
  have hb1012 : Below w10.heap.size w10 w12 := hb11.trans (hbx.mono hs11)
  have hs12 := hb1012.size
  have HX1 := Lib.hid hx1
  have HRX := Lib.hid (Rd.below (r3.rd (Nat.le_refl _)) hbx hbx.size)
  have hX1s : X1 < w12.heap.size := hx1.lt
  have HB312 := Lib.hid (HB310.out.trans (hb1012.mono HB310.out.size))
  have HRI12 := Lib.hid (HRI10.out.below (hb1012.mono (show w8.heap.size + 6 ≤ w10.heap.size by omega)) (Nat.le_refl _))
  have HRO12 := Lib.hid (HRO10.out.below (hb1012.mono hN) (Nat.le_refl _))
  have HW12 := Lib.hid hw12
  have HX1E := Lib.hid hX1
  have E1 := Lib.hid (tab_encode w12 w3.heap.size T rs (HO.out.below HB312.out (Nat.le_refl _)) HB312.out.size 2 (some ⟨w8.heap.size + 8, 0, none⟩) 2 [s, u] (w8.heap.size + 9) rfl HRO12.out (by omega) (Nat.le_refl _) (by unfold maxLen; decide) (by decide) _ HEN.out)
  have R2 := Lib.hid r2
  clear hb11 hbx hx1 hb1012 r1 r2 r3 hw12 hX1 hu11 U1 HB310 HRI10 HRO10
  go_upto_region 10 with fail
  rw [HW12.out]
  try rw [HX1E.out]
  go_wp2_with fail
  refine E1.out.mono ?_
  rintro e w13 ⟨v13, rfl, ho13, hb13⟩
  obtain ⟨A13, c13, rfl, hat13⟩ := ho13.form
  have hs13 := hb13.size
  have HB313 := Lib.hid (HB312.out.trans (hb13.mono HB312.out.size))
  have HX13 := Lib.hid (HX1.out.below hb13 hX1s)
  have HRX13 := Lib.hid (HRX.out.below hb13 hs13)
  have HRI13 := Lib.hid (HRI12.out.below (hb13.mono (show w8.heap.size + 6 ≤ w12.heap.size by omega)) (Nat.le_refl _))
  have HRO13 := Lib.hid (HRO12.out.below (hb13.mono (show w8.heap.size + 9 ≤ w12.heap.size by omega)) (Nat.le_refl _))
  have hil := HIL.out
  have U2 := Lib.hid (unitsT_any 1 A13 c13 _ w13.heap.size w13 hat13 (Nat.le_refl _) (by simp [outsT]; omega) (mvI a j) ⟨0, 0, [], 0⟩ (mvL j) 0 (by simp [outsT]) rfl hil.symm rfl)
  clear ho13 hat13 hb13 hil E1 HB312 HX1 HRX HRI12 HRO12
  simp only [List.length_cons, List.length_nil]
  go_wp2_with fail
  refine U2.out.mono ?_
  rintro e w14 ⟨A14, c14, A15, c15, rfl, hu14, -, hb14⟩
  obtain ⟨-, r1, r2, r3⟩ := hu14.rd
  have hs14 := hb14.size
  have hbx : Below w14.heap.size w14 (w14.alloc (.cells #[.int .i64 0, .int .i64 0, .slice A15 0 c15, .int .i64 0] 47)) := (Below.refl _ _).alloc (Nat.le_refl _) _
  have hx2 := Held.new w14 #[.int .i64 0, .int .i64 0, .slice A15 0 c15, .int .i64 0] 47
  have hx1 := (HX13.out.below hb14 (show X1 < w13.heap.size by omega)).alloc (.cells #[.int .i64 0, .int .i64 0, .slice A15 0 c15, .int .i64 0] 47)
  obtain ⟨w15, hw15⟩ : ∃ w15, w14.alloc (.cells #[.int .i64 0, .int .i64 0, .slice A15 0 c15, .int .i64 0] 47) = w15 := ⟨_, rfl⟩
  obtain ⟨X2, hX2⟩ : ∃ X2, w14.heap.size = X2 := ⟨_, rfl⟩
  rw [hw15] at hbx hx2 hx1
  rw [hX2] at hx2
  have hb1315 : Below w13.heap.size w13 w15 := hb14.trans (hbx.mono hs14)
  have hs15 := hb1315.size
  have z1 : w15.cell? ⟨X1, 3, none⟩ = some (.int .i64 0) := hx1.cell 3
  have z2 : w15.cell? ⟨X2, 3, none⟩ = some (.int .i64 0) := hx2.cell 3
  have HB315 := Lib.hid (HB313.out.trans (hb1315.mono HB313.out.size))
  have hyI := HRI13.out.below (hb1315.mono (show w8.heap.size + 6 ≤ w13.heap.size by omega)) (show w8.heap.size + 6 ≤ w15.heap.size by omega)
  have hyO := HRO13.out.below (hb1315.mono (show w8.heap.size + 9 ≤ w13.heap.size by omega)) (show w8.heap.size + 9 ≤ w15.heap.size by omega)
  have hxI := Rd.below (r3.rd (Nat.le_refl _)) hbx (show w14.heap.size ≤ w15.heap.size from hbx.size)
  have hxO := HRX13.out.below hb1315 hs15
  have V1 := Lib.hid (units_any 2 2 A11 (some ⟨w8.heap.size + 8, 0, none⟩) c11 2 [s, u] [s, u] w15 rfl rfl rfl hxO hyO (by simp))
  have hil := HIL.out
  have V2 := Lib.hid (fun (w' : World) (hb : Below w15.heap.size w15 w') => units_any (mvL j) (mvL j) A14 (some ⟨w8.heap.size + j, 0, none⟩) c14 (mvL j) (mvI a j) (mvI a j) w' rfl hil hil (hxI.below hb hb.size) (hyI.below hb hb.size) (by omega))
  have HW15 := Lib.hid hw15
  have HX2E := Lib.hid hX2
  clear hb14 hbx hx2 hx1 hb1315 r1 r2 r3 hw15 hX2 hu14 hyI hyO hxI hxO hil U2 HB313 HX13 HRX13 HRI13 HRO13
  go_upto_region 11 with fail
  rw [HW15.out]
  try rw [HX2E.out]
  go_wp2_with fail
  refine V1.out.mono ?_
  rintro e w16 ⟨rfl, hb16⟩
  have V3 := Lib.hid (V2.out w16 hb16)
  have HB316 := Lib.hid (HB315.out.trans (hb16.mono HB315.out.size))
  clear hb16 V1 V2
  go_wp2_with fail
  refine V3.out.mono ?_
  rintro e w17 ⟨rfl, hb17⟩
  have HBF := Lib.hid (HB3.out.trans ((HB316.out.trans (hb17.mono HB316.out.size)).mono hsE))
  clear hb17
  go_wp2_with fail
  go_ret
  exact ⟨rfl, HBF.out⟩
end Go.Proofs.YtamembaodpiggaaDoor
