/- Layer 8: bytes made those from a1 on, one by one. -/
import Derived.Test.YtgeecngpmcjdpaaDoorWttE
import Derived.Laws.OwnMore
import Derived.Lib.SmallJoins
namespace Go.Proofs.YtgeecngpmcjdpaaDoor
set_option linter.unusedVariables false
open Go.RowKit
def hiF (c : Int) : Int := 161 + c % 91
theorem hiF_range (c : Int) : 0 ≤ hiF c ∧ hiF c ≤ 255 := by unfold hiF; omega
def mixM (K : Nat) (zs : List Int) : List Int := (zs.take K).map hiF ++ zs.drop K
theorem mixM_zero (zs : List Int) : mixM 0 zs = zs := by simp [mixM]
theorem mixM_all {zs : List Int} {K : Nat} (h : K = zs.length) : mixM K zs = zs.map hiF := by subst h; simp [mixM]
theorem mixM_len {zs : List Int} {K : Nat} (h : K ≤ zs.length) : (mixM K zs).length = zs.length := by simp [mixM]; omega
theorem mixM_at {zs : List Int} {K : Nat} (h : K < zs.length) : (mixM K zs)[K]? = some (zs.getD K 0) := by
  unfold mixM
  rw [List.getElem?_append_right (by simp; omega)]
  simp [List.getD_eq_getElem?_getD, List.getElem?_eq_getElem h, Nat.min_eq_left (Nat.le_of_lt h)]
theorem take_snocB {zs : List Int} {K : Nat} (h : K < zs.length) : zs.take (K + 1) = zs.take K ++ [zs.getD K 0] := by
  rw [List.take_succ_eq_append_getElem h, List.getD_eq_getElem?_getD, List.getElem?_eq_getElem h]; rfl
theorem mixM_set {zs : List Int} {K : Nat} (h : K < zs.length) : (mixM K zs).set K (hiF (zs.getD K 0)) = mixM (K + 1) zs := by
  unfold mixM
  rw [List.set_append_right _ _ (by simp; omega), take_snocB h, List.map_append, List.append_assoc]
  simp only [List.length_map, List.length_take, Nat.min_eq_left (Nat.le_of_lt h), Nat.sub_self]
  rw [List.drop_eq_getElem_cons h]
  rfl
theorem mixM_take {zs : List Int} {K : Nat} (h : K ≤ zs.length) : (mixM K zs).take K = (zs.map hiF).take K := by
  unfold mixM
  rw [List.take_append_of_le_length (by simp; omega), ← List.map_take, List.take_take, Nat.min_self, List.map_take]
theorem mixM_range {zs : List Int} (K : Nat) (h : ∀ z ∈ zs, 0 ≤ z ∧ z ≤ 255) : ∀ z ∈ mixM K zs, 0 ≤ z ∧ z ≤ 255 := by
  intro z hz
  unfold mixM at hz
  rcases List.mem_append.1 hz with h1 | h1
  · obtain ⟨y, _, rfl⟩ := List.mem_map.1 h1; exact hiF_range y
  · exact h z (List.mem_of_mem_drop h1)
theorem hi_range {zs : List Int} : ∀ z ∈ zs.map hiF, 0 ≤ z ∧ z ≤ 255 := by
  intro z hz
  obtain ⟨y, _, rfl⟩ := List.mem_map.1 hz; exact hiF_range y
/-- v is a row of one's own, from block B on, of which the first K bytes have been made so -/
def HiRow (w : World) (B : Nat) (A : Option Addr) (n c K : Nat) (zs : List Int) : Prop := w.ownsRow B 5 1 (.slice A n c) n ((mixM K zs).map (Value.int .u8))
theorem HiRow.at {w : World} {B : Nat} {A : Option Addr} {n c K : Nat} {zs : List Int} (h : HiRow w B A n c K zs) (hn : n = zs.length) (hK : K < n) :
    ∃ g, A = some ⟨g, 0, none⟩ ∧ B ≤ g ∧ g < w.heap.size ∧ w.cell? ⟨g, K, none⟩ = some (.int .u8 (zs.getD K 0)) ∧ w.frozen? ⟨g, K, none⟩ = false ∧ HiRow (w.setCell ⟨g, K, none⟩ (.int .u8 (hiF (zs.getD K 0)))) B A n c (K + 1) zs ∧
      (w.setCell ⟨g, K, none⟩ (.int .u8 (hiF (zs.getD K 0)))).cell? ⟨g, K, none⟩ = some (.int .u8 (hiF (zs.getD K 0))) := by
  obtain ⟨g, cap, hg⟩ := Joins.ownsRow_form h (by omega)
  injection hg with h1 _ h3
  subst h1 h3
  have hlt := World.ownsRow.lt h g rfl
  have hs : HiRow (w.setCell ⟨g, K, none⟩ (.int .u8 (hiF (zs.getD K 0)))) B (some ⟨g, 0, none⟩) n c (K + 1) zs := by
    have := (World.ownsRow.stored h K (.int .u8 (hiF (zs.getD K 0)))).1
    unfold HiRow
    rw [← mixM_set (by omega), List.map_set]
    exact this
  refine ⟨g, rfl, hlt.1, hlt.2, ?_, World.ownsRow.frozenAt h K, hs, ?_⟩
  · rw [World.ownsRow.cellAt h K (by omega), List.getElem?_map, mixM_at (by omega)]; rfl
  · rw [World.ownsRow.cellAt hs K (by omega), ← mixM_set (by omega), List.getElem?_map, List.getElem?_set_self (by rw [mixM_len (by omega)]; omega)]; rfl
theorem HiRow.rd {w : World} {B : Nat} {A : Option Addr} {n c K : Nat} {zs : List Int} (h : HiRow w B A n c K zs) : Rd w w.heap.size A ((mixM K zs).map (Value.int .u8)) := Rd.own h
theorem bel_set {B g j : Nat} {w w' : World} (h : Below B w w') (hg : B ≤ g) (u : Value) : Below B w (w'.setCell ⟨g, j, none⟩ u) := h.setCell hg u
end Go.Proofs.YtgeecngpmcjdpaaDoor
