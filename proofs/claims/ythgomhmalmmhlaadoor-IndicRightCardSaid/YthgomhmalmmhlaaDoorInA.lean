/- Layer 14: the tables in a world; contracts of what is looked up. -/
import Derived.Test.YthgomhmalmmhlaaDoorInM
import Derived.Test.YthgomhmalmmhlaaDoorMixe
import Derived.Test.YthgomhmalmmhlaaDoorGlob
import Derived.Test.YthgomhmalmmhlaaDoorProg
import Derived.Test.YthgomhmalmmhlaaDoorIntR
import Derived.Test.YthgomhmalmmhlaaDoorBs
import Derived.Lib.LaidTab
namespace Go.Proofs.YthgomhmalmmhlaaDoor
set_option linter.unusedVariables false
set_option linter.unusedSimpArgs false
set_option linter.unnecessarySimpa false
open Go.RowKit

/-- the program's tables, as a world holds them -/
structure TabI (w : World) : Prop where
  pl : Lib.TabIs Tryd.prog w "lontar/indic.places" .u8 inPl
  cd : Lib.TabIs Tryd.prog w "lontar/indic.codes" .u8 inCd
theorem TabI.place {w : World} (h : TabI w) (k : Nat) (hk : k < 90) : w.cell? ⟨0, k, none⟩ = some (.int .u8 (inP (161 + k))) := by
  rw [inP_at k hk]; exact Lib.TabIs.cell h.pl (by kernel_rfl) k (by rw [inPl_len]; exact hk)
theorem TabI.code {w : World} (h : TabI w) (k : Nat) (hk : k < 9) : w.cell? ⟨1, k, none⟩ = some (.int .u8 (cdC k)) :=
  Lib.TabIs.cell h.cd (by kernel_rfl) k (by rw [inCd_len]; exact hk)
theorem TabI.lt0 {w : World} (h : TabI w) : 0 < w.heap.size := World.block_lt_of_cell? w _ (h.place 0 (by decide))
theorem TabI.lt1 {w : World} (h : TabI w) : 1 < w.heap.size := World.block_lt_of_cell? w _ (h.code 0 (by decide))
theorem TabI.below {w w' : World} (h : TabI w) (hb : Below w.heap.size w w') : TabI w' :=
  ⟨tab_block h.pl (by kernel_rfl) (hb.block _ h.lt0), tab_block h.cd (by kernel_rfl) (hb.block _ h.lt1)⟩

set_option maxRecDepth 100000 in
set_option maxHeartbeats 1600000 in
theorem place_any (c : Nat) (w : World) (h1 : c < 256) (hh : TabI w) :
    Calls Tryd.prog 11 #[.int .u8 (c : Int)] w fun e w' => e = .returned (.tuple #[.int .i64 (inP c), .bool (inP c != 0)]) ∧ w' = w := by
  by_cases ha : 161 ≤ c ∧ c < 251
  · obtain ⟨k, hk⟩ : ∃ k : Nat, c = 161 + k := ⟨c - 161, by omega⟩
    have hk' : k < 90 := by omega
    have hc := hh.place k hk'
    rw [← hk] at hc
    have hr := inP_range c
    obtain ⟨v, hv⟩ : ∃ v, inP c = v := ⟨_, rfl⟩
    rw [hv] at hc hr ⊢
    obtain ⟨r0, r1⟩ := hr
    have e1 : (c : Int) - 161 = (k : Int) := by omega
    have hk0 : (0 : Int) ≤ k := by omega
    have hk96 : (k : Int) < 90 := by omega
    have hw1 : IntKind.i64.wrap v = v := by rw [IntKind.wrap_i64]; omega
    have hci : (161 : Int) ≤ (c : Int) := by omega
    obtain ⟨C, hC⟩ : ∃ C : Int, C = (c : Int) := ⟨_, rfl⟩
    have hC0 : 0 ≤ C ∧ C ≤ 250 := by omega
    rw [← hC] at e1 hci ⊢
    obtain ⟨hC1, hC2⟩ := hC0
    have n1 : ¬ C < 161 := by omega
    have hw2 : IntKind.i64.wrap C = C := by rw [IntKind.wrap_i64]; omega
    clear hv hh hk hC ha h1
    go_enter Tryd.func11, Tryd.ntmps11
    go_wp2
    go_ret2
    exact ⟨rfl, rfl⟩
  · rw [inP_out c (by omega)]
    by_cases hl : c < 161
    · have n1 : (c : Int) < 161 := by omega
      have n2 : (0 : Int) ≤ c := by omega
      clear ha h1 hl hh
      go_enter Tryd.func11, Tryd.ntmps11
      go_wp2
      go_ret2
      exact ⟨rfl, rfl⟩
    · have n1 : ¬ (c : Int) < 161 := by omega
      have n2 : (251 : Int) ≤ c := by omega
      have n3 : (c : Int) ≤ 255 := by omega
      have hw2 : IntKind.i64.wrap (c : Int) = c := by rw [IntKind.wrap_i64]; omega
      clear ha h1 hl hh
      go_enter Tryd.func11, Tryd.ntmps11
      go_wp2
      go_ret2
      exact ⟨rfl, rfl⟩

set_option maxRecDepth 100000 in
set_option maxHeartbeats 1600000 in
theorem code_at (k : Nat) (w : World) (h : k < 9) (hh : TabI w) :
    Calls Tryd.prog 15 #[.int .i64 (k : Int)] w fun e w' => e = .returned (.tuple #[.int .i64 (cdC k), .bool true]) ∧ w' = w := by
  have hc := hh.code k h
  have hr := cd_range k h
  obtain ⟨v, hv⟩ : ∃ v, cdC k = v := ⟨_, rfl⟩
  rw [hv] at hc hr ⊢
  obtain ⟨r0, r1⟩ := hr
  have hk0 : (0 : Int) ≤ k := by omega
  have hk96 : (k : Int) < 9 := by omega
  have hw1 : IntKind.i64.wrap v = v := by rw [IntKind.wrap_i64]; omega
  clear hv hh h
  go_enter Tryd.func15, Tryd.ntmps15
  go_wp2
  go_ret2
  exact ⟨rfl, rfl⟩
set_option maxRecDepth 100000 in
set_option maxHeartbeats 1600000 in
theorem code_no (s : Int) (w : World) (h : s < 0 ∨ 9 ≤ s) :
    Calls Tryd.prog 15 #[.int .i64 s] w fun e w' => e = .returned (.tuple #[.int .i64 0, .bool false]) ∧ w' = w := by
  rcases h with h | h
  · go_enter Tryd.func15, Tryd.ntmps15
    go_wp2
    go_ret2
    exact ⟨rfl, rfl⟩
  · have n1 : ¬ s < 0 := by omega
    go_enter Tryd.func15, Tryd.ntmps15
    go_wp2
    go_ret2
    exact ⟨rfl, rfl⟩
set_option maxRecDepth 100000 in
set_option maxHeartbeats 1600000 in
theorem of_yes (x : Int) (w : World) (h0 : 2304 ≤ x) (h1 : x < 3456) (h2 : x ≠ 2404) :
    Calls Tryd.prog 13 #[.int .i64 x] w fun e w' => e = .returned (.tuple #[.int .i64 ((x - 2304) / 128), .int .i64 ((x - 2304) % 128), .bool true]) ∧ w' = w := by
  have n1 : ¬ x < 2304 := by omega
  have n2 : (x == 2404) = false := by simpa using h2
  obtain ⟨y, hy⟩ : ∃ y, x - 2304 = y := ⟨_, rfl⟩
  have y0 : 0 ≤ y := by omega
  have y1 : y < 1152 := by omega
  have y2 : y.tdiv 128 = y / 128 := Int.tdiv_eq_ediv_of_nonneg y0
  have y3 : y.tmod 128 = y % 128 := Int.tmod_eq_emod_of_nonneg y0
  rw [hy]
  go_enter Tryd.func13, Tryd.ntmps13
  go_wp2
  go_ret3
  exact ⟨rfl, rfl⟩
set_option maxRecDepth 100000 in
set_option maxHeartbeats 1600000 in
theorem of_no (x : Int) (w : World) (h : x < 2304 ∨ 3456 ≤ x ∨ x = 2404) :
    Calls Tryd.prog 13 #[.int .i64 x] w fun e w' => e = .returned (.tuple #[.int .i64 0, .int .i64 0, .bool false]) ∧ w' = w := by
  rcases h with h | h | h
  · go_enter Tryd.func13, Tryd.ntmps13
    go_wp2
    go_ret3
    exact ⟨rfl, rfl⟩
  · have n1 : ¬ x < 2304 := by omega
    go_enter Tryd.func13, Tryd.ntmps13
    go_wp2
    go_ret3
    exact ⟨rfl, rfl⟩
  · subst h
    go_enter Tryd.func13, Tryd.ntmps13
    go_wp2
    go_ret3
    exact ⟨rfl, rfl⟩
set_option maxRecDepth 100000 in
set_option maxHeartbeats 1600000 in
theorem scalar_any (s p : Int) (w : World) (h : 0 ≤ s ∧ s ≤ 8) (hp : 0 ≤ p ∧ p ≤ 127) :
    Calls Tryd.prog 14 #[.int .i64 s, .int .i64 p] w fun e w' => e = .returned (.int .i64 (2304 + s * 128 + p)) ∧ w' = w := by
  obtain ⟨a0, a1⟩ := h
  obtain ⟨b0, b1⟩ := hp
  go_enter Tryd.func14, Tryd.ntmps14
  go_wp2
  go_ret
  exact ⟨rfl, rfl⟩
end Go.Proofs.YthgomhmalmmhlaaDoor
