/- Layer 7: the law's Class, by a list of ranges. -/
import Derived.Test.YtgeecngpmcjdpaaDoorThaiO
namespace Go.Proofs.YtgeecngpmcjdpaaDoor
set_option linter.unusedVariables false
open Go.RowKit

/-- first and last byte, and the class, of each range, in the law's order -/
def rangeL : List (Int × Int × Int) := [(0, 31, 0), (127, 159, 0), (196, 196, 6), (198, 198, 6), (161, 206, 2), (208, 208, 4), (210, 211, 4), (209, 209, 15), (214, 214, 15), (212, 212, 14), (213, 213, 16), (215, 215, 16), (216, 216, 7), (217, 217, 8), (218, 218, 9), (224, 228, 3), (229, 229, 5), (231, 231, 12), (232, 235, 10), (236, 237, 11), (238, 238, 13)]
def lookR : List (Int × Int × Int) → Int → Int
  | [], _ => 1
  | x :: r, c => if x.1 ≤ c ∧ c ≤ x.2.1 then x.2.2 else lookR r c
theorem lookR_all : ((List.range 256).all fun c : Nat => lookR rangeL c == clF c) = true := by decide +kernel
theorem lookR_cl (c : Int) (h0 : 0 ≤ c) (h1 : c ≤ 255) : lookR rangeL c = clF c := by
  have := List.all_eq_true.1 lookR_all c.toNat (List.mem_range.2 (by omega))
  rw [show ((c.toNat : Nat) : Int) = c by omega] at this
  simpa using this
def rangeC : List Value := rangeL.flatMap fun x => [.int .u8 x.1, .int .u8 x.2.1, .int .i64 x.2.2]
theorem rangeC_at (K : Nat) (hK : K < 21) : ∃ lo hi k, rangeL[K]? = some (lo, hi, k) ∧ rangeC[K * 3]? = some (.int .u8 lo) ∧ rangeC[K * 3 + 1]? = some (.int .u8 hi) ∧ rangeC[K * 3 + 2]? = some (.int .i64 k) ∧ 0 ≤ lo ∧ hi ≤ 255 := by
  iterate 21 (rcases K with _ | K; · exact ⟨_, _, _, rfl, rfl, rfl, rfl, by decide, by decide⟩)
  omega
theorem lookR_hit {K : Nat} {lo hi k c v : Int} (h : lookR (rangeL.drop K) c = v) (hg : rangeL[K]? = some (lo, hi, k)) (hc : lo ≤ c ∧ c ≤ hi) : k = v := by
  obtain ⟨hlt, he⟩ := List.getElem?_eq_some_iff.1 hg
  rw [List.drop_eq_getElem_cons hlt, he] at h
  simpa only [lookR, if_pos hc] using h
theorem lookR_miss {K : Nat} {lo hi k c v : Int} (h : lookR (rangeL.drop K) c = v) (hg : rangeL[K]? = some (lo, hi, k)) (hc : ¬ (lo ≤ c ∧ c ≤ hi)) : lookR (rangeL.drop (K + 1)) c = v := by
  obtain ⟨hlt, he⟩ := List.getElem?_eq_some_iff.1 hg
  rw [List.drop_eq_getElem_cons hlt, he] at h
  simpa only [lookR, if_neg hc] using h

theorem cell_alloc {w : World} {o : Obj} {R : Nat} (hR : R < w.heap.size) (j : Nat) : (w.alloc o).cell? ⟨R, j, none⟩ = w.cell? ⟨R, j, none⟩ :=
  ((Below.refl w.heap.size w).alloc (Nat.le_refl _) o).cell (p := ⟨R, j, none⟩) hR

set_option maxHeartbeats 1600000 in
theorem classL_any (c : Int) (w : World) (h0 : 0 ≤ c) (h1 : c ≤ 255) :
    Calls Tryd.prog 22 #[.int .u8 c] w fun e w' => e = .returned (.int .i64 (clF c)) ∧ Below w.heap.size w w' := by
  obtain ⟨v, hv⟩ : ∃ v, clF c = v := ⟨_, rfl⟩
  have HV := Lib.hid ((lookR_cl c h0 h1).trans hv)
  rw [hv]
  clear hv
  go_enter Tryd.func22, Tryd.ntmps22
  go_wp2_with fail
  go_loopw [28] (fun i wr => ∃ K : Nat, K ≤ 21 ∧ i = .int .i64 K ∧ (∀ j, wr.cell? ⟨w.heap.size, j, none⟩ = rangeC[j]?) ∧ w.heap.size < wr.heap.size ∧ Below w.heap.size w wr ∧ Hid (lookR (rangeL.drop K) c = v)) (fun i _ => 21 - (intOf i).toNat)
  case atStart =>
    refine ⟨0, by omega, rfl, fun j => ?_, by simp, (Below.refl _ _).alloc (Nat.le_refl _) _, HV⟩
    exact (World.cell?_alloc_new (w := w) _ _ j).trans (List.getElem?_toArray (xs := rangeC) (i := j))
  case round =>
    obtain ⟨K, hK, rfl, hc, hR, hb, hl⟩ := hrel
    by_cases hKn : K = 21
    · have hE := Lib.hid (show (1 : Int) = v by rw [← hl.out, hKn]; rfl)
      clear hl hc
      subst hKn
      go_wp2
      go_ret
      exact ⟨ret_int hE.out.symm, hb⟩
    have hK' : K < 21 := by omega
    obtain ⟨lo, hi, k, g0, g1, g2, g3, g4, g5⟩ := rangeC_at K hK'
    have c1 := (hc _).trans g1
    have c2 := (hc _).trans g2
    have c3 := (hc _).trans g3
    have G0 := Lib.hid g0
    have HC := Lib.hid hc
    have k0 : (0 : Int) ≤ K := by omega
    have k1 : (K : Int) < 21 := by omega
    obtain ⟨R, hR'⟩ : ∃ R, R = w.heap.size := ⟨_, rfl⟩
    rw [← hR'] at c1 c2 c3 hR ⊢
    have HR' := Lib.hid hR'
    clear hc g0 g1 g2 g3 hR'
    by_cases h1 : lo ≤ c
    · by_cases h2 : c ≤ hi
      · have hE := Lib.hid (lookR_hit hl.out G0.out ⟨h1, h2⟩)
        go_wp2
        go_ret
        exact ⟨ret_int hE.out.symm, HR'.out ▸ hb.trans (((Below.refl _ _).alloc (Nat.le_refl _) _).mono hb.size)⟩
      · have hE := Lib.hid (lookR_miss hl.out G0.out (by omega))
        go_wp2
        go_roundw
        case rel => exact ⟨K + 1, by omega, by go_num, fun j => HR'.out ▸ (cell_alloc (HR'.out ▸ hR) j).trans (HC.out j), by simp; omega, HR'.out ▸ hb.trans (((Below.refl _ _).alloc (Nat.le_refl _) _).mono hb.size), hE⟩
        case measure => simp [intOf]; omega
    · have hE := Lib.hid (lookR_miss hl.out G0.out (by omega))
      go_wp2
      go_roundw
      case rel => exact ⟨K + 1, by omega, by go_num, fun j => HR'.out ▸ (cell_alloc (HR'.out ▸ hR) j).trans (HC.out j), by simp; omega, HR'.out ▸ hb.trans (((Below.refl _ _).alloc (Nat.le_refl _) _).mono hb.size), hE⟩
      case measure => simp [intOf]; omega
end Go.Proofs.YtgeecngpmcjdpaaDoor
