/- Layer 14: the law's places, the codes and the rows of nuktas as literals. -/
import Derived.Test.YthgomhmalmmhlaaDoorInA
namespace Go.Proofs.YthgomhmalmmhlaaDoor
set_option linter.unusedVariables false
set_option linter.unusedSimpArgs false
set_option linter.unnecessarySimpa false
open Go.RowKit

def loTab : Array Value := ((inPl.take 56).map (Value.int .i64)).toArray
def hiTab : Array Value := (((inPl.drop 57).take 16).map (Value.int .i64)).toArray
def cdTab : Array Value := (inCd.map (Value.int .i64)).toArray
def nkTab : Array Value := ((inNk.flatMap fun r => [r.1, r.2]).map (Value.int .i64)).toArray
theorem loTab_at (k : Nat) (h : k < 56) : loTab[k]? = some (.int .i64 (inP (161 + k))) := by
  rw [inP_at k (by omega)]
  unfold loTab
  rw [List.getD_eq_getElem?_getD, List.getElem?_eq_getElem (show k < inPl.length by rw [inPl_len]; omega)]
  simp only [List.getElem?_toArray, List.getElem?_map, List.getElem?_take, if_pos h, List.getElem?_eq_getElem (show k < inPl.length by rw [inPl_len]; omega)]
  rfl
theorem hiTab_at (k : Nat) (h : k < 16) : hiTab[k]? = some (.int .i64 (inP (218 + k))) := by
  rw [show 218 + k = 161 + (57 + k) by omega, inP_at (57 + k) (by omega)]
  unfold hiTab
  rw [List.getD_eq_getElem?_getD, List.getElem?_eq_getElem (show 57 + k < inPl.length by rw [inPl_len]; omega)]
  simp only [List.getElem?_toArray, List.getElem?_map, List.getElem?_take, if_pos h, List.getElem?_drop, List.getElem?_eq_getElem (show 57 + k < inPl.length by rw [inPl_len]; omega)]
  rfl
theorem cdTab_at (k : Nat) (h : k < 9) : cdTab[k]? = some (.int .i64 (cdC k)) := by
  unfold cdTab cdC
  rw [List.getD_eq_getElem?_getD, List.getElem?_eq_getElem (show k < inCd.length by rw [inCd_len]; omega)]
  simp only [List.getElem?_toArray, List.getElem?_map, List.getElem?_eq_getElem (show k < inCd.length by rw [inCd_len]; omega)]
  rfl
theorem nk_flat : ∀ k, k < 14 → (inNk.flatMap fun r => [r.1, r.2])[k * 2]? = some (nkB k) ∧ (inNk.flatMap fun r => [r.1, r.2])[k * 2 + 1]? = some (nkP k) := by
  intro k h
  have := all_rangeI (show (List.range 14).all (fun k => decide ((inNk.flatMap fun r => [r.1, r.2])[k * 2]? = some (nkB k) ∧ (inNk.flatMap fun r => [r.1, r.2])[k * 2 + 1]? = some (nkP k))) = true by decide +kernel) k h
  exact of_decide_eq_true this
theorem nkTab_at (k : Nat) (h : k < 14) : nkTab[k * 2]? = some (.int .i64 (nkB k)) ∧ nkTab[k * 2 + 1]? = some (.int .i64 (nkP k)) := by
  obtain ⟨h1, h2⟩ := nk_flat k h
  unfold nkTab
  simp only [List.getElem?_toArray, List.getElem?_map, h1, h2, Option.map_some]
  exact ⟨by trivial, by trivial⟩

set_option maxRecDepth 100000 in
set_option maxHeartbeats 3200000 in
theorem lplace_any (c : Nat) (w : World) (h1 : c < 256) :
    Calls Tryd.prog 12 #[.int .u8 (c : Int)] w fun e w' => e = .returned (.tuple #[.int .i64 (inP c), .bool (inP c != 0)]) ∧ Below w.heap.size w w' := by
  have hB := ((Below.refl _ w).alloc (Nat.le_refl _) (.cells loTab 3)).alloc (by simp) (.cells hiTab 3)
  have hL : Held ((w.alloc (.cells loTab 3)).alloc (.cells hiTab 3)) w.heap.size loTab 3 := (Held.new w loTab 3).alloc _
  have hH : Held ((w.alloc (.cells loTab 3)).alloc (.cells hiTab 3)) (w.heap.size + 1) hiTab 3 := by
    have := Held.new (w.alloc (.cells loTab 3)) hiTab 3
    simpa using this
  have HB := Lib.hid hB
  have n0 : (0 : Int) ≤ c := by omega
  have n255 : (c : Int) ≤ 255 := by omega
  have hw1 : IntKind.i64.wrap (c : Int) = c := by rw [IntKind.wrap_i64]; omega
  clear hB
  by_cases ha : 161 ≤ c ∧ c ≤ 216
  · obtain ⟨k, hk⟩ : ∃ k : Nat, c = 161 + k := ⟨c - 161, by omega⟩
    have hk' : k < 56 := by omega
    have hc := (hL.cell k).trans (loTab_at k hk')
    rw [← hk] at hc
    have hp := inP_mid k hk'
    rw [← hk] at hp
    obtain ⟨v, hv⟩ : ∃ v, inP c = v := ⟨_, rfl⟩
    rw [hv] at hc hp ⊢
    have hb : (v != 0) = true := by simpa using hp
    rw [hb]
    have e1 : (c : Int) - 161 = (k : Int) := by omega
    have hk0 : (0 : Int) ≤ k := by omega
    have hk96 : (k : Int) < 56 := by omega
    have n1 : (161 : Int) ≤ c := by omega
    have n2 : (c : Int) ≤ 216 := by omega
    clear hv hk ha h1 hp hb hL hH
    go_enter Tryd.func12, Tryd.ntmps12
    go_wp2_with (first
      | refine wpList_bs rfl 27 56 _ rfl (.slice (some ⟨w.heap.size, 0, none⟩) 56 56) (w.alloc (.cells loTab 3)) (by kernel_rfl) ?_
      | refine wpList_bs rfl 27 16 _ rfl (.slice (some ⟨(w.alloc (.cells loTab 3)).heap.size, 0, none⟩) 16 16) ((w.alloc (.cells loTab 3)).alloc (.cells hiTab 3)) (by kernel_rfl) ?_)
    go_ret2
    exact ⟨rfl, HB.out⟩
  by_cases hb : 218 ≤ c ∧ c ≤ 233
  · obtain ⟨k, hk⟩ : ∃ k : Nat, c = 218 + k := ⟨c - 218, by omega⟩
    have hk' : k < 16 := by omega
    have hc := (hH.cell k).trans (hiTab_at k hk')
    rw [← hk] at hc
    have hp := inP_high k hk'
    rw [← hk] at hp
    obtain ⟨v, hv⟩ : ∃ v, inP c = v := ⟨_, rfl⟩
    rw [hv] at hc hp ⊢
    have hb : (v != 0) = true := by simpa using hp
    rw [hb]
    have e1 : (c : Int) - 218 = (k : Int) := by omega
    have hk0 : (0 : Int) ≤ k := by omega
    have hk96 : (k : Int) < 16 := by omega
    have n1 : (161 : Int) ≤ c := by omega
    have n2 : ¬ (c : Int) ≤ 216 := by omega
    have n3 : (218 : Int) ≤ c := by omega
    have n4 : (c : Int) ≤ 233 := by omega
    clear hv hk ha h1 hp hb hL hH
    go_enter Tryd.func12, Tryd.ntmps12
    go_wp2_with (first
      | refine wpList_bs rfl 27 56 _ rfl (.slice (some ⟨w.heap.size, 0, none⟩) 56 56) (w.alloc (.cells loTab 3)) (by kernel_rfl) ?_
      | refine wpList_bs rfl 27 16 _ rfl (.slice (some ⟨(w.alloc (.cells loTab 3)).heap.size, 0, none⟩) 16 16) ((w.alloc (.cells loTab 3)).alloc (.cells hiTab 3)) (by kernel_rfl) ?_)
    go_ret2
    exact ⟨rfl, HB.out⟩
  by_cases hd : 241 ≤ c ∧ c ≤ 250
  · obtain ⟨k, hk⟩ : ∃ k : Nat, c = 241 + k := ⟨c - 241, by omega⟩
    have hk' : k < 10 := by omega
    have hp := inP_dig k hk'
    rw [← hk] at hp
    rw [hp, show 102 + (k : Int) = k + 102 by omega]
    have hb : ((k : Int) + 102 != 0) = true := by simp; omega
    rw [hb]
    have e1 : (c : Int) - 241 = (k : Int) := by omega
    have hk0 : (0 : Int) ≤ k := by omega
    have hk96 : (k : Int) < 10 := by omega
    have n1 : (161 : Int) ≤ c := by omega
    have n2 : ¬ (c : Int) ≤ 216 := by omega
    have n3 : (218 : Int) ≤ c := by omega
    have n4 : ¬ (c : Int) ≤ 233 := by omega
    have n5 : (241 : Int) ≤ c := by omega
    have n6 : (c : Int) ≤ 250 := by omega
    clear hk ha h1 hp hb hL hH
    go_enter Tryd.func12, Tryd.ntmps12
    go_wp2_with (first
      | refine wpList_bs rfl 27 56 _ rfl (.slice (some ⟨w.heap.size, 0, none⟩) 56 56) (w.alloc (.cells loTab 3)) (by kernel_rfl) ?_
      | refine wpList_bs rfl 27 16 _ rfl (.slice (some ⟨(w.alloc (.cells loTab 3)).heap.size, 0, none⟩) 16 16) ((w.alloc (.cells loTab 3)).alloc (.cells hiTab 3)) (by kernel_rfl) ?_)
    go_ret2
    exact ⟨rfl, HB.out⟩
  have hp : inP c = 0 := by
    by_cases h : c < 161 ∨ 251 ≤ c
    · exact inP_out c h
    · exact inP_gap c (by omega)
  rw [hp, show ((0 : Int) != 0) = false from rfl]
  clear hp hL hH
  have hcs : (c : Int) < 161 ∨ (c : Int) = 217 ∨ (234 ≤ (c : Int) ∧ (c : Int) ≤ 240) ∨ 251 ≤ (c : Int) := by omega
  clear ha hb hd h1
  obtain ⟨C, hC⟩ : ∃ C : Int, C = (c : Int) := ⟨_, rfl⟩
  rw [← hC] at hcs n0 n255 hw1 ⊢
  clear hC
  rcases hcs with h | h | ⟨h, h'⟩ | h
  · go_enter Tryd.func12, Tryd.ntmps12
    go_wp2_with (first
      | refine wpList_bs rfl 27 56 _ rfl (.slice (some ⟨w.heap.size, 0, none⟩) 56 56) (w.alloc (.cells loTab 3)) (by kernel_rfl) ?_
      | refine wpList_bs rfl 27 16 _ rfl (.slice (some ⟨(w.alloc (.cells loTab 3)).heap.size, 0, none⟩) 16 16) ((w.alloc (.cells loTab 3)).alloc (.cells hiTab 3)) (by kernel_rfl) ?_)
    go_ret2
    exact ⟨rfl, HB.out⟩
  · subst h
    go_enter Tryd.func12, Tryd.ntmps12
    go_wp2_with (first
      | refine wpList_bs rfl 27 56 _ rfl (.slice (some ⟨w.heap.size, 0, none⟩) 56 56) (w.alloc (.cells loTab 3)) (by kernel_rfl) ?_
      | refine wpList_bs rfl 27 16 _ rfl (.slice (some ⟨(w.alloc (.cells loTab 3)).heap.size, 0, none⟩) 16 16) ((w.alloc (.cells loTab 3)).alloc (.cells hiTab 3)) (by kernel_rfl) ?_)
    go_ret2
    exact ⟨rfl, HB.out⟩
  · have n1 : 161 ≤ C := by omega
    have n2 : ¬ C ≤ 216 := by omega
    have n3 : 218 ≤ C := by omega
    have n4 : ¬ C ≤ 233 := by omega
    have n5 : ¬ 241 ≤ C := by omega
    go_enter Tryd.func12, Tryd.ntmps12
    go_wp2_with (first
      | refine wpList_bs rfl 27 56 _ rfl (.slice (some ⟨w.heap.size, 0, none⟩) 56 56) (w.alloc (.cells loTab 3)) (by kernel_rfl) ?_
      | refine wpList_bs rfl 27 16 _ rfl (.slice (some ⟨(w.alloc (.cells loTab 3)).heap.size, 0, none⟩) 16 16) ((w.alloc (.cells loTab 3)).alloc (.cells hiTab 3)) (by kernel_rfl) ?_)
    go_ret2
    exact ⟨rfl, HB.out⟩
  · have n1 : 161 ≤ C := by omega
    have n2 : ¬ C ≤ 216 := by omega
    have n3 : 218 ≤ C := by omega
    have n4 : ¬ C ≤ 233 := by omega
    have n5 : 241 ≤ C := by omega
    have n6 : ¬ C ≤ 250 := by omega
    go_enter Tryd.func12, Tryd.ntmps12
    go_wp2_with (first
      | refine wpList_bs rfl 27 56 _ rfl (.slice (some ⟨w.heap.size, 0, none⟩) 56 56) (w.alloc (.cells loTab 3)) (by kernel_rfl) ?_
      | refine wpList_bs rfl 27 16 _ rfl (.slice (some ⟨(w.alloc (.cells loTab 3)).heap.size, 0, none⟩) 16 16) ((w.alloc (.cells loTab 3)).alloc (.cells hiTab 3)) (by kernel_rfl) ?_)
    go_ret2
    exact ⟨rfl, HB.out⟩
set_option maxRecDepth 100000 in
set_option maxHeartbeats 1600000 in
theorem lcodes_any (w : World) :
    Calls Tryd.prog 16 #[] w fun e w' => e = .returned (.slice (some ⟨w.heap.size, 0, none⟩) 9 9) ∧ w' = w.alloc (.cells cdTab 3) := by
  go_enter Tryd.func16, Tryd.ntmps16
  go_wp2_with (refine wpList_bs rfl 27 9 _ rfl (.slice (some ⟨w.heap.size, 0, none⟩) 9 9) (w.alloc (.cells cdTab 3)) (by kernel_rfl) ?_)
  go_ret
  exact ⟨rfl, rfl⟩
set_option maxRecDepth 100000 in
set_option maxHeartbeats 1600000 in
theorem nukta_any (w : World) :
    Calls Tryd.prog 17 #[] w fun e w' => e = .returned (.slice (some ⟨w.heap.size, 0, none⟩) 14 14) ∧ w' = w.alloc (.cells nkTab 39) := by
  go_enter Tryd.func17, Tryd.ntmps17
  go_wp2_with (refine wpList_bs rfl 37 14 _ rfl (.slice (some ⟨w.heap.size, 0, none⟩) 14 14) (w.alloc (.cells nkTab 39)) (by kernel_rfl) ?_)
  go_ret
  exact ⟨rfl, rfl⟩
set_option maxRecDepth 100000 in
set_option maxHeartbeats 1600000 in
theorem lnukta_any (w : World) :
    Calls Tryd.prog 18 #[] w fun e w' => e = .returned (.slice (some ⟨w.heap.size, 0, none⟩) 14 14) ∧ w' = w.alloc (.cells nkTab 39) := by
  go_enter Tryd.func18, Tryd.ntmps18
  go_wp2_with (refine wpList_bs rfl 37 14 _ rfl (.slice (some ⟨w.heap.size, 0, none⟩) 14 14) (w.alloc (.cells nkTab 39)) (by kernel_rfl) ?_)
  go_ret
  exact ⟨rfl, rfl⟩
end Go.Proofs.YthgomhmalmmhlaaDoor
