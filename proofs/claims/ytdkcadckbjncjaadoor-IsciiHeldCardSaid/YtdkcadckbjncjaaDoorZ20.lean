/- Texts of this seat, one behind the other: InA, InB, InC, InD. -/
import Derived.Test.YtdkcadckbjncjaaDoorZ1
import Derived.Test.YtdkcadckbjncjaaDoorZ2
import Derived.Test.YtdkcadckbjncjaaDoorZ19
import Derived.Test.YtdkcadckbjncjaaDoorProg
import Derived.Test.YtdkcadckbjncjaaDoorZ15
import Derived.Test.YtdkcadckbjncjaaDoorZ3
import Derived.Lib.LaidTab
namespace Go.Proofs.YtdkcadckbjncjaaDoor
set_option linter.unusedVariables false
set_option linter.unusedSimpArgs false
set_option linter.unnecessarySimpa false
open Go.RowKit

/-- the program's tables, as a world holds them -/
structure TabI (w : World) : Prop where
  pl : Lib.TabIs Tryd.prog w "lontar/indic.places" .u8 inPl
  cd : Lib.TabIs Tryd.prog w "lontar/indic.codes" .u8 inCd
theorem TabI.place {w : World} (h : TabI w) (k : Nat) (hk : k < 90) : w.cell? ⟨1, k, none⟩ = some (.int .u8 (inP (161 + k))) := by
  rw [inP_at k hk]; exact Lib.TabIs.cell h.pl (by kernel_rfl) k (by rw [inPl_len]; exact hk)
theorem TabI.code {w : World} (h : TabI w) (k : Nat) (hk : k < 9) : w.cell? ⟨0, k, none⟩ = some (.int .u8 (cdC k)) :=
  Lib.TabIs.cell h.cd (by kernel_rfl) k (by rw [inCd_len]; exact hk)
theorem TabI.lt0 {w : World} (h : TabI w) : 1 < w.heap.size := World.block_lt_of_cell? w _ (h.place 0 (by decide))
theorem TabI.lt1 {w : World} (h : TabI w) : 0 < w.heap.size := World.block_lt_of_cell? w _ (h.code 0 (by decide))
theorem TabI.below {w w' : World} (h : TabI w) (hb : Below w.heap.size w w') : TabI w' :=
  ⟨tab_block h.pl (by kernel_rfl) (hb.block _ h.lt0), tab_block h.cd (by kernel_rfl) (hb.block _ h.lt1)⟩

set_option maxRecDepth 100000 in
set_option maxHeartbeats 1600000 in
theorem place_any (c : Nat) (w : World) (h1 : c < 256) (hh : TabI w) :
    Calls Tryd.prog 71 #[.int .u8 (c : Int)] w fun e w' => e = .returned (.tuple #[.int .i64 (inP c), .bool (inP c != 0)]) ∧ w' = w := by
  by_cases ha : 161 ≤ c ∧ c < 251
  · obtain ⟨k, hk⟩ : ∃ k : Nat, c = 161 + k := ⟨c - 161, by omega⟩
    have hk' : k < 90 := by omega
    have hc := hh.place k hk'
    rw [← hk] at hc
    have hr := inP_range c
    obtain ⟨v, hv⟩ : ∃ v, inP c = v := ⟨_, rfl⟩
    rw [hv] at hc hr ⊢
    obtain ⟨r0, r1⟩ := hr
    have e1 : (c : Int) - 161 = (k : Int) := by omega
    have hk0 : (0 : Int) ≤ k := by omega
    have hk96 : (k : Int) < 90 := by omega
    have hw1 : IntKind.i64.wrap v = v := by rw [IntKind.wrap_i64]; omega
    have hci : (161 : Int) ≤ (c : Int) := by omega
    obtain ⟨C, hC⟩ : ∃ C : Int, C = (c : Int) := ⟨_, rfl⟩
    have hC0 : 0 ≤ C ∧ C ≤ 250 := by omega
    rw [← hC] at e1 hci ⊢
    obtain ⟨hC1, hC2⟩ := hC0
    have n1 : ¬ C < 161 := by omega
    have hw2 : IntKind.i64.wrap C = C := by rw [IntKind.wrap_i64]; omega
    clear hv hh hk hC ha h1
    go_enter Tryd.func71, Tryd.ntmps71
    go_wp2
    go_ret2
    exact ⟨rfl, rfl⟩
  · rw [inP_out c (by omega)]
    by_cases hl : c < 161
    · have n1 : (c : Int) < 161 := by omega
      have n2 : (0 : Int) ≤ c := by omega
      clear ha h1 hl hh
      go_enter Tryd.func71, Tryd.ntmps71
      go_wp2
      go_ret2
      exact ⟨rfl, rfl⟩
    · have n1 : ¬ (c : Int) < 161 := by omega
      have n2 : (251 : Int) ≤ c := by omega
      have n3 : (c : Int) ≤ 255 := by omega
      have hw2 : IntKind.i64.wrap (c : Int) = c := by rw [IntKind.wrap_i64]; omega
      clear ha h1 hl hh
      go_enter Tryd.func71, Tryd.ntmps71
      go_wp2
      go_ret2
      exact ⟨rfl, rfl⟩

set_option maxRecDepth 100000 in
set_option maxHeartbeats 1600000 in
theorem code_at (k : Nat) (w : World) (h : k < 9) (hh : TabI w) :
    Calls Tryd.prog 49 #[.int .i64 (k : Int)] w fun e w' => e = .returned (.tuple #[.int .i64 (cdC k), .bool true]) ∧ w' = w := by
  have hc := hh.code k h
  have hr := cd_range k h
  obtain ⟨v, hv⟩ : ∃ v, cdC k = v := ⟨_, rfl⟩
  rw [hv] at hc hr ⊢
  obtain ⟨r0, r1⟩ := hr
  have hk0 : (0 : Int) ≤ k := by omega
  have hk96 : (k : Int) < 9 := by omega
  have hw1 : IntKind.i64.wrap v = v := by rw [IntKind.wrap_i64]; omega
  clear hv hh h
  go_enter Tryd.func49, Tryd.ntmps49
  go_wp2
  go_ret2
  exact ⟨rfl, rfl⟩
set_option maxRecDepth 100000 in
set_option maxHeartbeats 1600000 in
theorem code_no (s : Int) (w : World) (h : s < 0 ∨ 9 ≤ s) :
    Calls Tryd.prog 49 #[.int .i64 s] w fun e w' => e = .returned (.tuple #[.int .i64 0, .bool false]) ∧ w' = w := by
  rcases h with h | h
  · go_enter Tryd.func49, Tryd.ntmps49
    go_wp2
    go_ret2
    exact ⟨rfl, rfl⟩
  · have n1 : ¬ s < 0 := by omega
    go_enter Tryd.func49, Tryd.ntmps49
    go_wp2
    go_ret2
    exact ⟨rfl, rfl⟩
set_option maxRecDepth 100000 in
set_option maxHeartbeats 1600000 in
theorem of_yes (x : Int) (w : World) (h0 : 2304 ≤ x) (h1 : x < 3456) (h2 : x ≠ 2404) :
    Calls Tryd.prog 32 #[.int .i64 x] w fun e w' => e = .returned (.tuple #[.int .i64 ((x - 2304) / 128), .int .i64 ((x - 2304) % 128), .bool true]) ∧ w' = w := by
  have n1 : ¬ x < 2304 := by omega
  have n2 : (x == 2404) = false := by simpa using h2
  obtain ⟨y, hy⟩ : ∃ y, x - 2304 = y := ⟨_, rfl⟩
  have y0 : 0 ≤ y := by omega
  have y1 : y < 1152 := by omega
  have y2 : y.tdiv 128 = y / 128 := Int.tdiv_eq_ediv_of_nonneg y0
  have y3 : y.tmod 128 = y % 128 := Int.tmod_eq_emod_of_nonneg y0
  rw [hy]
  go_enter Tryd.func32, Tryd.ntmps32
  go_wp2
  go_ret3
  exact ⟨rfl, rfl⟩
set_option maxRecDepth 100000 in
set_option maxHeartbeats 1600000 in
theorem of_no (x : Int) (w : World) (h : x < 2304 ∨ 3456 ≤ x ∨ x = 2404) :
    Calls Tryd.prog 32 #[.int .i64 x] w fun e w' => e = .returned (.tuple #[.int .i64 0, .int .i64 0, .bool false]) ∧ w' = w := by
  rcases h with h | h | h
  · go_enter Tryd.func32, Tryd.ntmps32
    go_wp2
    go_ret3
    exact ⟨rfl, rfl⟩
  · have n1 : ¬ x < 2304 := by omega
    go_enter Tryd.func32, Tryd.ntmps32
    go_wp2
    go_ret3
    exact ⟨rfl, rfl⟩
  · subst h
    go_enter Tryd.func32, Tryd.ntmps32
    go_wp2
    go_ret3
    exact ⟨rfl, rfl⟩
set_option maxRecDepth 100000 in
set_option maxHeartbeats 1600000 in
theorem scalar_any (s p : Int) (w : World) (h : 0 ≤ s ∧ s ≤ 8) (hp : 0 ≤ p ∧ p ≤ 127) :
    Calls Tryd.prog 58 #[.int .i64 s, .int .i64 p] w fun e w' => e = .returned (.int .i64 (2304 + s * 128 + p)) ∧ w' = w := by
  obtain ⟨a0, a1⟩ := h
  obtain ⟨b0, b1⟩ := hp
  go_enter Tryd.func58, Tryd.ntmps58
  go_wp2
  go_ret
  exact ⟨rfl, rfl⟩
end Go.Proofs.YtdkcadckbjncjaaDoor
namespace Go.Proofs.YtdkcadckbjncjaaDoor
set_option linter.unusedVariables false
set_option linter.unusedSimpArgs false
set_option linter.unnecessarySimpa false
open Go.RowKit

def loTab : Array Value := ((inPl.take 56).map (Value.int .i64)).toArray
def hiTab : Array Value := (((inPl.drop 57).take 16).map (Value.int .i64)).toArray
def cdTab : Array Value := (inCd.map (Value.int .i64)).toArray
def nkTab : Array Value := ((inNk.flatMap fun r => [r.1, r.2]).map (Value.int .i64)).toArray
theorem loTab_at (k : Nat) (h : k < 56) : loTab[k]? = some (.int .i64 (inP (161 + k))) := by
  rw [inP_at k (by omega)]
  unfold loTab
  rw [List.getD_eq_getElem?_getD, List.getElem?_eq_getElem (show k < inPl.length by rw [inPl_len]; omega)]
  simp only [List.getElem?_toArray, List.getElem?_map, List.getElem?_take, if_pos h, List.getElem?_eq_getElem (show k < inPl.length by rw [inPl_len]; omega)]
  rfl
theorem hiTab_at (k : Nat) (h : k < 16) : hiTab[k]? = some (.int .i64 (inP (218 + k))) := by
  rw [show 218 + k = 161 + (57 + k) by omega, inP_at (57 + k) (by omega)]
  unfold hiTab
  rw [List.getD_eq_getElem?_getD, List.getElem?_eq_getElem (show 57 + k < inPl.length by rw [inPl_len]; omega)]
  simp only [List.getElem?_toArray, List.getElem?_map, List.getElem?_take, if_pos h, List.getElem?_drop, List.getElem?_eq_getElem (show 57 + k < inPl.length by rw [inPl_len]; omega)]
  rfl
theorem cdTab_at (k : Nat) (h : k < 9) : cdTab[k]? = some (.int .i64 (cdC k)) := by
  unfold cdTab cdC
  rw [List.getD_eq_getElem?_getD, List.getElem?_eq_getElem (show k < inCd.length by rw [inCd_len]; omega)]
  simp only [List.getElem?_toArray, List.getElem?_map, List.getElem?_eq_getElem (show k < inCd.length by rw [inCd_len]; omega)]
  rfl
theorem nk_flat : ∀ k, k < 14 → (inNk.flatMap fun r => [r.1, r.2])[k * 2]? = some (nkB k) ∧ (inNk.flatMap fun r => [r.1, r.2])[k * 2 + 1]? = some (nkP k) := by
  intro k h
  have := all_rangeI (show (List.range 14).all (fun k => decide ((inNk.flatMap fun r => [r.1, r.2])[k * 2]? = some (nkB k) ∧ (inNk.flatMap fun r => [r.1, r.2])[k * 2 + 1]? = some (nkP k))) = true by decide +kernel) k h
  exact of_decide_eq_true this
theorem nkTab_at (k : Nat) (h : k < 14) : nkTab[k * 2]? = some (.int .i64 (nkB k)) ∧ nkTab[k * 2 + 1]? = some (.int .i64 (nkP k)) := by
  obtain ⟨h1, h2⟩ := nk_flat k h
  unfold nkTab
  simp only [List.getElem?_toArray, List.getElem?_map, h1, h2, Option.map_some]
  exact ⟨by trivial, by trivial⟩

set_option maxRecDepth 100000 in
set_option maxHeartbeats 3200000 in
theorem lplace_any (c : Nat) (w : World) (h1 : c < 256) :
    Calls Tryd.prog 47 #[.int .u8 (c : Int)] w fun e w' => e = .returned (.tuple #[.int .i64 (inP c), .bool (inP c != 0)]) ∧ Below w.heap.size w w' := by
  have hB := ((Below.refl _ w).alloc (Nat.le_refl _) (.cells loTab 3)).alloc (by simp) (.cells hiTab 3)
  have hL : Held ((w.alloc (.cells loTab 3)).alloc (.cells hiTab 3)) w.heap.size loTab 3 := (Held.new w loTab 3).alloc _
  have hH : Held ((w.alloc (.cells loTab 3)).alloc (.cells hiTab 3)) (w.heap.size + 1) hiTab 3 := by
    have := Held.new (w.alloc (.cells loTab 3)) hiTab 3
    simpa using this
  have HB := Lib.hid hB
  have n0 : (0 : Int) ≤ c := by omega
  have n255 : (c : Int) ≤ 255 := by omega
  have hw1 : IntKind.i64.wrap (c : Int) = c := by rw [IntKind.wrap_i64]; omega
  clear hB
  by_cases ha : 161 ≤ c ∧ c ≤ 216
  · obtain ⟨k, hk⟩ : ∃ k : Nat, c = 161 + k := ⟨c - 161, by omega⟩
    have hk' : k < 56 := by omega
    have hc := (hL.cell k).trans (loTab_at k hk')
    rw [← hk] at hc
    have hp := inP_mid k hk'
    rw [← hk] at hp
    obtain ⟨v, hv⟩ : ∃ v, inP c = v := ⟨_, rfl⟩
    rw [hv] at hc hp ⊢
    have hb : (v != 0) = true := by simpa using hp
    rw [hb]
    have e1 : (c : Int) - 161 = (k : Int) := by omega
    have hk0 : (0 : Int) ≤ k := by omega
    have hk96 : (k : Int) < 56 := by omega
    have n1 : (161 : Int) ≤ c := by omega
    have n2 : (c : Int) ≤ 216 := by omega
    clear hv hk ha h1 hp hb hL hH
    go_enter Tryd.func47, Tryd.ntmps47
    go_wp2_with (first
      | refine wpList_bs rfl 24 56 _ rfl (.slice (some ⟨w.heap.size, 0, none⟩) 56 56) (w.alloc (.cells loTab 3)) (by kernel_rfl) ?_
      | refine wpList_bs rfl 24 16 _ rfl (.slice (some ⟨(w.alloc (.cells loTab 3)).heap.size, 0, none⟩) 16 16) ((w.alloc (.cells loTab 3)).alloc (.cells hiTab 3)) (by kernel_rfl) ?_)
    go_ret2
    exact ⟨rfl, HB.out⟩
  by_cases hb : 218 ≤ c ∧ c ≤ 233
  · obtain ⟨k, hk⟩ : ∃ k : Nat, c = 218 + k := ⟨c - 218, by omega⟩
    have hk' : k < 16 := by omega
    have hc := (hH.cell k).trans (hiTab_at k hk')
    rw [← hk] at hc
    have hp := inP_high k hk'
    rw [← hk] at hp
    obtain ⟨v, hv⟩ : ∃ v, inP c = v := ⟨_, rfl⟩
    rw [hv] at hc hp ⊢
    have hb : (v != 0) = true := by simpa using hp
    rw [hb]
    have e1 : (c : Int) - 218 = (k : Int) := by omega
    have hk0 : (0 : Int) ≤ k := by omega
    have hk96 : (k : Int) < 16 := by omega
    have n1 : (161 : Int) ≤ c := by omega
    have n2 : ¬ (c : Int) ≤ 216 := by omega
    have n3 : (218 : Int) ≤ c := by omega
    have n4 : (c : Int) ≤ 233 := by omega
    clear hv hk ha h1 hp hb hL hH
    go_enter Tryd.func47, Tryd.ntmps47
    go_wp2_with (first
      | refine wpList_bs rfl 24 56 _ rfl (.slice (some ⟨w.heap.size, 0, none⟩) 56 56) (w.alloc (.cells loTab 3)) (by kernel_rfl) ?_
      | refine wpList_bs rfl 24 16 _ rfl (.slice (some ⟨(w.alloc (.cells loTab 3)).heap.size, 0, none⟩) 16 16) ((w.alloc (.cells loTab 3)).alloc (.cells hiTab 3)) (by kernel_rfl) ?_)
    go_ret2
    exact ⟨rfl, HB.out⟩
  by_cases hd : 241 ≤ c ∧ c ≤ 250
  · obtain ⟨k, hk⟩ : ∃ k : Nat, c = 241 + k := ⟨c - 241, by omega⟩
    have hk' : k < 10 := by omega
    have hp := inP_dig k hk'
    rw [← hk] at hp
    rw [hp, show 102 + (k : Int) = k + 102 by omega]
    have hb : ((k : Int) + 102 != 0) = true := by simp; omega
    rw [hb]
    have e1 : (c : Int) - 241 = (k : Int) := by omega
    have hk0 : (0 : Int) ≤ k := by omega
    have hk96 : (k : Int) < 10 := by omega
    have n1 : (161 : Int) ≤ c := by omega
    have n2 : ¬ (c : Int) ≤ 216 := by omega
    have n3 : (218 : Int) ≤ c := by omega
    have n4 : ¬ (c : Int) ≤ 233 := by omega
    have n5 : (241 : Int) ≤ c := by omega
    have n6 : (c : Int) ≤ 250 := by omega
    clear hk ha h1 hp hb hL hH
    go_enter Tryd.func47, Tryd.ntmps47
    go_wp2_with (first
      | refine wpList_bs rfl 24 56 _ rfl (.slice (some ⟨w.heap.size, 0, none⟩) 56 56) (w.alloc (.cells loTab 3)) (by kernel_rfl) ?_
      | refine wpList_bs rfl 24 16 _ rfl (.slice (some ⟨(w.alloc (.cells loTab 3)).heap.size, 0, none⟩) 16 16) ((w.alloc (.cells loTab 3)).alloc (.cells hiTab 3)) (by kernel_rfl) ?_)
    go_ret2
    exact ⟨rfl, HB.out⟩
  have hp : inP c = 0 := by
    by_cases h : c < 161 ∨ 251 ≤ c
    · exact inP_out c h
    · exact inP_gap c (by omega)
  rw [hp, show ((0 : Int) != 0) = false from rfl]
  clear hp hL hH
  have hcs : (c : Int) < 161 ∨ (c : Int) = 217 ∨ (234 ≤ (c : Int) ∧ (c : Int) ≤ 240) ∨ 251 ≤ (c : Int) := by omega
  clear ha hb hd h1
  obtain ⟨C, hC⟩ : ∃ C : Int, C = (c : Int) := ⟨_, rfl⟩
  rw [← hC] at hcs n0 n255 hw1 ⊢
  clear hC
  rcases hcs with h | h | ⟨h, h'⟩ | h
  · go_enter Tryd.func47, Tryd.ntmps47
    go_wp2_with (first
      | refine wpList_bs rfl 24 56 _ rfl (.slice (some ⟨w.heap.size, 0, none⟩) 56 56) (w.alloc (.cells loTab 3)) (by kernel_rfl) ?_
      | refine wpList_bs rfl 24 16 _ rfl (.slice (some ⟨(w.alloc (.cells loTab 3)).heap.size, 0, none⟩) 16 16) ((w.alloc (.cells loTab 3)).alloc (.cells hiTab 3)) (by kernel_rfl) ?_)
    go_ret2
    exact ⟨rfl, HB.out⟩
  · subst h
    go_enter Tryd.func47, Tryd.ntmps47
    go_wp2_with (first
      | refine wpList_bs rfl 24 56 _ rfl (.slice (some ⟨w.heap.size, 0, none⟩) 56 56) (w.alloc (.cells loTab 3)) (by kernel_rfl) ?_
      | refine wpList_bs rfl 24 16 _ rfl (.slice (some ⟨(w.alloc (.cells loTab 3)).heap.size, 0, none⟩) 16 16) ((w.alloc (.cells loTab 3)).alloc (.cells hiTab 3)) (by kernel_rfl) ?_)
    go_ret2
    exact ⟨rfl, HB.out⟩
  · have n1 : 161 ≤ C := by omega
    have n2 : ¬ C ≤ 216 := by omega
    have n3 : 218 ≤ C := by omega
    have n4 : ¬ C ≤ 233 := by omega
    have n5 : ¬ 241 ≤ C := by omega
    go_enter Tryd.func47, Tryd.ntmps47
    go_wp2_with (first
      | refine wpList_bs rfl 24 56 _ rfl (.slice (some ⟨w.heap.size, 0, none⟩) 56 56) (w.alloc (.cells loTab 3)) (by kernel_rfl) ?_
      | refine wpList_bs rfl 24 16 _ rfl (.slice (some ⟨(w.alloc (.cells loTab 3)).heap.size, 0, none⟩) 16 16) ((w.alloc (.cells loTab 3)).alloc (.cells hiTab 3)) (by kernel_rfl) ?_)
    go_ret2
    exact ⟨rfl, HB.out⟩
  · have n1 : 161 ≤ C := by omega
    have n2 : ¬ C ≤ 216 := by omega
    have n3 : 218 ≤ C := by omega
    have n4 : ¬ C ≤ 233 := by omega
    have n5 : 241 ≤ C := by omega
    have n6 : ¬ C ≤ 250 := by omega
    go_enter Tryd.func47, Tryd.ntmps47
    go_wp2_with (first
      | refine wpList_bs rfl 24 56 _ rfl (.slice (some ⟨w.heap.size, 0, none⟩) 56 56) (w.alloc (.cells loTab 3)) (by kernel_rfl) ?_
      | refine wpList_bs rfl 24 16 _ rfl (.slice (some ⟨(w.alloc (.cells loTab 3)).heap.size, 0, none⟩) 16 16) ((w.alloc (.cells loTab 3)).alloc (.cells hiTab 3)) (by kernel_rfl) ?_)
    go_ret2
    exact ⟨rfl, HB.out⟩
set_option maxRecDepth 100000 in
set_option maxHeartbeats 1600000 in
theorem lcodes_any (w : World) :
    Calls Tryd.prog 26 #[] w fun e w' => e = .returned (.slice (some ⟨w.heap.size, 0, none⟩) 9 9) ∧ w' = w.alloc (.cells cdTab 3) := by
  go_enter Tryd.func26, Tryd.ntmps26
  go_wp2_with (refine wpList_bs rfl 24 9 _ rfl (.slice (some ⟨w.heap.size, 0, none⟩) 9 9) (w.alloc (.cells cdTab 3)) (by kernel_rfl) ?_)
  go_ret
  exact ⟨rfl, rfl⟩
set_option maxRecDepth 100000 in
set_option maxHeartbeats 1600000 in
theorem nukta_any (w : World) :
    Calls Tryd.prog 72 #[] w fun e w' => e = .returned (.slice (some ⟨w.heap.size, 0, none⟩) 14 14) ∧ w' = w.alloc (.cells nkTab 81) := by
  go_enter Tryd.func72, Tryd.ntmps72
  go_wp2_with (refine wpList_bs rfl 79 14 _ rfl (.slice (some ⟨w.heap.size, 0, none⟩) 14 14) (w.alloc (.cells nkTab 81)) (by kernel_rfl) ?_)
  go_ret
  exact ⟨rfl, rfl⟩
set_option maxRecDepth 100000 in
set_option maxHeartbeats 1600000 in
theorem lnukta_any (w : World) :
    Calls Tryd.prog 48 #[] w fun e w' => e = .returned (.slice (some ⟨w.heap.size, 0, none⟩) 14 14) ∧ w' = w.alloc (.cells nkTab 81) := by
  go_enter Tryd.func48, Tryd.ntmps48
  go_wp2_with (refine wpList_bs rfl 79 14 _ rfl (.slice (some ⟨w.heap.size, 0, none⟩) 14 14) (w.alloc (.cells nkTab 81)) (by kernel_rfl) ?_)
  go_ret
  exact ⟨rfl, rfl⟩
end Go.Proofs.YtdkcadckbjncjaaDoor
namespace Go.Proofs.YtdkcadckbjncjaaDoor
set_option linter.unusedVariables false
set_option linter.unusedSimpArgs false
set_option linter.unnecessarySimpa false
open Go.RowKit
set_option maxRecDepth 100000 in
set_option maxHeartbeats 1600000 in
theorem single_raw (w : World) :
    Calls Tryd.prog 73 #[] w fun e w' => e = .returned (.slice (some ⟨w.heap.size + 14, 0, none⟩) 7 7) ∧ w' = (ruW w inS).alloc (.cells (ruC w.heap.size inS).toArray 75) := by
  go_enter Tryd.func73, Tryd.ntmps73
  go_wp2
  go_ret
  exact ⟨rfl, rfl⟩
theorem single_any (w : World) :
    Calls Tryd.prog 73 #[] w fun e w' => ∃ A xs, e = .returned (.slice A 7 7) ∧ Rd w' w'.heap.size A xs ∧ Rls (fun b => w.heap.size ≤ b) w' xs inS ∧ Below w.heap.size w w' := by
  refine (single_raw w).mono ?_
  rintro e w' ⟨rfl, rfl⟩
  have hz := ruW_size inS w
  have hr := Rd_new (ruW w inS) (ruC w.heap.size inS).toArray 75
  have hb := ruW_below inS w
  have hl := ruW_rls inS w (by decide)
  have hz' : (ruW w inS).heap.size = w.heap.size + 14 := hz
  rw [hz'] at hr
  refine ⟨_, ruC w.heap.size inS, rfl, ?_, ?_, hb.alloc hb.size _⟩
  · rw [show ((ruW w inS).alloc (.cells (ruC w.heap.size inS).toArray 75)).heap.size = w.heap.size + 14 + 1 by simp [hz']]
    exact hr
  · exact hl.step (by simp) fun b hb2 hx => ⟨hx, Below.heap_alloc _ _ b hb2⟩
end Go.Proofs.YtdkcadckbjncjaaDoor
namespace Go.Proofs.YtdkcadckbjncjaaDoor
set_option linter.unusedVariables false
set_option linter.unusedSimpArgs false
set_option linter.unnecessarySimpa false
open Go.RowKit
theorem below_alloc14 (w : World) (o : Obj) : Below w.heap.size w (w.alloc o) := (Below.refl _ w).alloc (Nat.le_refl _) o
set_option maxRecDepth 100000 in
set_option maxHeartbeats 6400000 in
theorem inrules_any (w : World) (hT : TabI w) :
    Calls Tryd.prog 62 #[] w fun e w' => ∃ v, e = .returned v ∧ OwnRs w.heap.size w' v inR ∧ Below w.heap.size w w' := by
  have HT := Lib.hid hT
  clear hT
  go_enter Tryd.func62, Tryd.ntmps62
  go_wp2_with fail
  go_loopw [1, 11] (fun v i wr => ∃ C : Nat, C ≤ 128 ∧ i = .int .i64 C ∧ Hid (OwnRs w.heap.size wr v (inR.take C)) ∧ Hid (Below w.heap.size w wr)) (fun _ i _ => 128 - (intOf i).toNat)
  case atStart => exact ⟨0, by omega, rfl, OwnRs.nil _ _, Lib.hid (Below.refl _ _)⟩
  case round =>
    obtain ⟨C, hC, rfl, ho, hb⟩ := hrel
    by_cases hCn : C = 128
    · subst hCn
      obtain ⟨w1, rfl⟩ : ∃ w1 : World, w1 = wr := ⟨_, rfl⟩
      rw [← inA_zero] at ho
      rw [show ((128 : Nat) : Int) = 128 from rfl]
      go_wp2_with fail
      go_loopw [1, 24] (fun v i wr => ∃ K : Nat, K ≤ 256 ∧ i = .int .i64 K ∧ Hid (OwnRs w.heap.size wr v (inR.take (inA K))) ∧ Hid (Below w.heap.size w wr)) (fun _ i _ => 256 - (intOf i).toNat)
      case atStart => exact ⟨0, by omega, rfl, ho, hb⟩
      case round =>
        clear ho hb
        obtain ⟨K, hK, rfl, ho, hb⟩ := hrel
        by_cases hKn : K = 256
        · subst hKn
          obtain ⟨w2, rfl⟩ : ∃ w2 : World, w2 = wr := ⟨_, rfl⟩
          rw [inA_all] at ho
          rw [show ((256 : Nat) : Int) = 256 from rfl]
          go_wp2_with fail
          refine (nukta_any w2).mono ?_
          rintro e w3 ⟨rfl, rfl⟩
          have hs2 := hb.out.size
          have HQ := Lib.hid (Held.new w2 nkTab 81)
          have ho3 := Lib.hid (ho.out.below (below_alloc14 w2 (.cells nkTab 81)) (Nat.le_refl _))
          have hb3 := Lib.hid (hb.out.trans ((below_alloc14 w2 (.cells nkTab 81)).mono hs2))
          obtain ⟨W3, hW3⟩ : ∃ W3, w2.alloc (.cells nkTab 81) = W3 := ⟨_, rfl⟩
          obtain ⟨M, hM⟩ : ∃ M, w2.heap.size = M := ⟨_, rfl⟩
          rw [hW3] at HQ ho3 hb3 ⊢
          rw [hM] at HQ hs2 ⊢
          clear ho hb hW3 hM w2
          go_wp2_with fail
          go_loopw [1, 45] (fun v i wr => ∃ J : Nat, J ≤ 14 ∧ i = .int .i64 J ∧ Hid (OwnRs w.heap.size wr v (inR.take (210 + J))) ∧ Hid (Below w.heap.size w wr) ∧ Hid (Held wr M nkTab 81)) (fun _ i _ => 14 - (intOf i).toNat)
          case atStart => exact ⟨0, by omega, rfl, ho3, hb3, HQ⟩
          case round =>
            clear ho3 hb3 HQ
            obtain ⟨J, hJ, rfl, ho, hb, hq⟩ := hrel
            by_cases hJn : J = 14
            · subst hJn
              obtain ⟨w4, rfl⟩ : ∃ w4 : World, w4 = wr := ⟨_, rfl⟩
              rw [show ((14 : Nat) : Int) = 14 from rfl]
              clear hq
              go_wp2_with fail
              go_loopw [1, 60] (fun v i wr => ∃ S : Nat, S ≤ 9 ∧ i = .int .i64 S ∧ Hid (OwnRs w.heap.size wr v (inR.take (224 + S))) ∧ Hid (Below w.heap.size w wr)) (fun _ i _ => 9 - (intOf i).toNat)
              case atStart => exact ⟨0, by omega, rfl, ho, hb⟩
              case round =>
                clear ho hb
                obtain ⟨S, hS, rfl, ho, hb⟩ := hrel
                by_cases hSn : S = 9
                · subst hSn
                  rw [show 224 + 9 = 233 from rfl] at ho
                  obtain ⟨w5, rfl⟩ : ∃ w5 : World, w5 = wr := ⟨_, rfl⟩
                  have hs5 := hb.out.size
                  have hal := inR_takeLen 233 (by omega)
                  have HL := Lib.hid inR_last
                  obtain ⟨acc, hacc⟩ : ∃ acc, inR.take 233 = acc := ⟨_, rfl⟩
                  rw [hacc] at HL hal ho
                  obtain ⟨A3, c3, rfl, -⟩ := ho.out.form
                  have HAL := Lib.hid (show acc.length + inS.length ≤ 1048576 by rw [hal]; decide)
                  clear hal hacc
                  go_wp2_with fail
                  refine (single_any w5).mono ?_
                  rintro e w6 ⟨A6, xs, rfl, hr6, hl6, hb6⟩
                  have hs6 := hb6.size
                  have HR6 := Lib.hid hr6
                  have HL6 := Lib.hid (show Rls (fun b => (Value.slice A3 acc.length c3).ownBlock ≠ some b) w6 xs inS from hl6.step (Nat.le_refl _) fun b _ hx => ⟨fun e => by
                    obtain ⟨ys, h1, _⟩ := ho.out
                    have := own_lt h1 e; omega, rfl⟩)
                  have HO6 := Lib.hid (ho.out.below hb6 (Nat.le_refl _))
                  have HB6 := Lib.hid (hb.out.trans (hb6.mono hs5))
                  clear ho hb hr6 hl6 hb6
                  go_wp2_with (at_builtin; refine wpList_appRsN rfl _ _ rfl w.heap.size (.slice A3 acc.length c3) acc rfl HO6.out A6 7 7 xs inS rfl rfl _ HR6.out HL6.out HAL.out (by omega) ?_)
                  intro v7 w7 HN HBB
                  have HB7 := HBB.out w.heap.size w (Nat.le_refl _) HB6.out
                  go_wp2_with fail
                  go_ret
                  exact ⟨_, rfl, by have := HN.out; rwa [HL.out] at this, HB7⟩
                have hS' : S < 9 := by omega
                have k3 : (0 : Int) ≤ S := by omega
                have k4 : (S : Int) < 9 := by omega
                have hwr := hb.out.size
                have D1 := Lib.hid (code_at S wr hS' (HT.out.below hb.out))
                have HS := Lib.hid (inR_cod S hS')
                have hal := inR_takeLen (224 + S) (by omega)
                obtain ⟨acc, hacc⟩ : ∃ acc, inR.take (224 + S) = acc := ⟨_, rfl⟩
                obtain ⟨d, hd⟩ : ∃ d, cdC S = d := ⟨_, rfl⟩
                rw [hacc, hd] at HS
                rw [hacc] at hal ho
                rw [hd] at D1
                obtain ⟨A3, c3, rfl, -⟩ := ho.out.form
                have HAL := Lib.hid (show acc.length ≤ 1048576 by omega)
                clear hal hacc hSn hd
                go_wp2_with fail
                refine D1.out.mono ?_
                rintro e w8 ⟨rfl, rfl⟩
                go_wp2_with (at_builtin; refine wpList_appRlL rfl _ _ rfl w.heap.size (.slice A3 acc.length c3) acc [239, d] [4096 + (S : Int)] rfl ho.out 2 1 rfl rfl rfl rfl (by decide) (by decide) w8.heap.size rfl rfl HAL.out hwr ?_)
                intro v7 w7 HN HBB HTT
                have HB7 := Lib.hid (HBB.out w.heap.size w (Nat.le_refl _) hb.out)
                have HN2 : Hid (OwnRs w.heap.size w7 v7 (inR.take (224 + (S + 1)))) := by rw [HS.out]; exact HN
                clear HN HBB HTT
                go_wp2_with fail
                go_roundw
                case rel => exact ⟨S + 1, by omega, by go_num, HN2, HB7⟩
                case measure => simp [intOf]; omega
            have hJ' : J < 14 := by omega
            have k3 : (0 : Int) ≤ J := by omega
            have k4 : (J : Int) < 14 := by omega
            have hwr := hb.out.size
            have l0 := (hq.out.cell (J * 2)).trans (nkTab_at J hJ').1
            have l1 := (hq.out.cell (J * 2 + 1)).trans (nkTab_at J hJ').2
            have hMl := hq.out.lt
            have HS := Lib.hid (inR_nuk J hJ')
            have hal := inR_takeLen (210 + J) (by omega)
            obtain ⟨acc, hacc⟩ : ∃ acc, inR.take (210 + J) = acc := ⟨_, rfl⟩
            obtain ⟨b, hbe⟩ : ∃ b, nkB J = b := ⟨_, rfl⟩
            obtain ⟨p, hp⟩ : ∃ p, nkP J = p := ⟨_, rfl⟩
            rw [hacc, hbe, hp] at HS
            rw [hacc] at hal ho
            rw [hbe] at l0
            rw [hp] at l1
            obtain ⟨A3, c3, rfl, -⟩ := ho.out.form
            have HAL := Lib.hid (show acc.length ≤ 1048576 by omega)
            clear hal hacc hJn hbe hp
            have HO8 := Lib.hid (ho.out.below (below_alloc14 wr (.cells #[.int .i64 b, .int .i64 p] 81)) (Nat.le_refl _))
            have HB8 := Lib.hid (hb.out.trans ((below_alloc14 wr (.cells #[.int .i64 b, .int .i64 p] 81)).mono hwr))
            have HQ8 := Lib.hid (hq.out.alloc (.cells #[.int .i64 b, .int .i64 p] 81))
            have hs8 : w.heap.size ≤ (wr.alloc (.cells #[.int .i64 b, .int .i64 p] 81)).heap.size := HB8.out.size
            have c0 := (Held.new wr #[.int .i64 b, .int .i64 p] 81).cell 0
            have c1 := (Held.new wr #[.int .i64 b, .int .i64 p] 81).cell 1
            clear ho hb hq
            go_wp2_with (at_builtin; refine wpList_appRlL rfl _ _ rfl w.heap.size (.slice A3 acc.length c3) acc [b, 233] [p] rfl HO8.out 2 1 rfl rfl rfl rfl (by decide) (by decide) (wr.heap.size + 1) (by simp) rfl HAL.out hs8 ?_)
            intro v7 w7 HN HBB HTT
            have HB7 := Lib.hid (HBB.out w.heap.size w (Nat.le_refl _) HB8.out)
            have HN2 : Hid (OwnRs w.heap.size w7 v7 (inR.take (210 + (J + 1)))) := by rw [HS.out]; exact HN
            have HQ7 : Hid (Held w7 M nkTab 81) := Lib.hid (HTT.out M _ _ (by decide) HQ8.out)
            clear HN HBB HTT
            go_wp2_with fail
            go_roundw
            case rel => exact ⟨J + 1, by omega, by go_num, HN2, HB7, HQ7⟩
            case measure => simp [intOf]; omega
        have hK' : K < 256 := by omega
        have k3 : (0 : Int) ≤ K := by omega
        have k4 : (K : Int) < 256 := by omega
        have k5 : IntKind.u8.wrap (K : Int) = K := by rw [IntKind.wrap_u8]; omega
        have k6 : (K : Int) % 256 = K := by omega
        have hwr := hb.out.size
        have D1 := Lib.hid (place_any K wr hK' (HT.out.below hb.out))
        by_cases hp : inP K = 0
        · have HN2 := ho
          rw [← inA_no K hp] at HN2
          rw [hp, show ((0 : Int) != 0) = false from rfl] at D1
          clear ho hp hKn
          go_wp2_with fail
          refine D1.out.mono ?_
          rintro e w8 ⟨rfl, rfl⟩
          go_wp2_with fail
          go_roundw
          case rel => exact ⟨K + 1, by omega, by go_num, HN2, hb⟩
          case measure => simp [intOf]; omega
        · have HS := Lib.hid (inR_more K hK' hp)
          have hal := inR_takeLen (inA K) (by have := inA_le K (by omega); omega)
          have hale := inA_le K (by omega)
          have hpb : (inP K != 0) = true := by simpa using hp
          rw [hpb] at D1
          obtain ⟨acc, hacc⟩ : ∃ acc, inR.take (inA K) = acc := ⟨_, rfl⟩
          obtain ⟨p, hpe⟩ : ∃ p, inP K = p := ⟨_, rfl⟩
          rw [hacc, hpe] at HS
          rw [hacc] at hal ho
          rw [hpe] at D1
          obtain ⟨A3, c3, rfl, -⟩ := ho.out.form
          have HAL := Lib.hid (show acc.length ≤ 1048576 by omega)
          clear hal hale hacc hpe hpb hp hKn
          go_wp2_with fail
          refine D1.out.mono ?_
          rintro e w8 ⟨rfl, rfl⟩
          go_wp2_with (at_builtin; refine wpList_appRlN rfl _ _ rfl w.heap.size (.slice A3 acc.length c3) acc (K : Int) p rfl ho.out w8.heap.size rfl rfl HAL.out hwr ?_)
          intro v7 w7 HN HBB HTT
          have HB7 := Lib.hid (HBB.out w.heap.size w (Nat.le_refl _) hb.out)
          have HN2 : Hid (OwnRs w.heap.size w7 v7 (inR.take (inA (K + 1)))) := by rw [HS.out]; exact HN
          clear HN HBB HTT
          go_wp2_with fail
          go_roundw
          case rel => exact ⟨K + 1, by omega, by go_num, HN2, HB7⟩
          case measure => simp [intOf]; omega
    have hC' : C < 128 := by omega
    have k3 : (0 : Int) ≤ C := by omega
    have k4 : (C : Int) < 128 := by omega
    have hwr := hb.out.size
    have HS := Lib.hid (inR_low C hC')
    have hal := inR_takeLen C (by omega)
    obtain ⟨acc, hacc⟩ : ∃ acc, inR.take C = acc := ⟨_, rfl⟩
    rw [hacc] at HS hal ho
    obtain ⟨A3, c3, rfl, -⟩ := ho.out.form
    have HAL := Lib.hid (show acc.length ≤ 1048576 by omega)
    clear hal hacc hCn
    go_wp2_with (at_builtin; refine wpList_appRlN rfl _ _ rfl w.heap.size (.slice A3 acc.length c3) acc (C : Int) (8192 + (C : Int)) rfl ho.out wr.heap.size rfl rfl HAL.out hwr ?_)
    intro v7 w7 HN HBB HTT
    have HB7 := Lib.hid (HBB.out w.heap.size w (Nat.le_refl _) hb.out)
    have HN2 : Hid (OwnRs w.heap.size w7 v7 (inR.take (C + 1))) := by rw [HS.out]; exact HN
    clear HN HBB HTT
    go_wp2_with fail
    go_roundw
    case rel => exact ⟨C + 1, by omega, by go_num, HN2, HB7⟩
    case measure => simp [intOf]; omega
end Go.Proofs.YtdkcadckbjncjaaDoor
