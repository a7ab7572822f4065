/- Contract of Bytes of layer 1. -/
import Derived.Test.YtbigbkplhlmbmaaUtfAll
namespace Go.Proofs.Ytbigbkplhlmbmaa
set_option linter.unusedVariables false
open Go.RowKit

/-- scalars' bytes -/
def bytesF (ss : List Int) : List Int := ss.flatMap fun s => encL (fixS s)
theorem bytesF_snoc (ss : List Int) (s : Int) : bytesF (ss ++ [s]) = bytesF ss ++ encL (fixS s) := by simp [bytesF]
theorem bytesF_len (ss : List Int) : (bytesF ss).length ≤ ss.length * 4 := by
  induction ss with
  | nil => simp [bytesF]
  | cons s ss ih =>
    have e : bytesF (s :: ss) = encL (fixS s) ++ bytesF ss := rfl
    have := encL_len (fixS s)
    rw [e, List.length_append, List.length_cons]; omega
theorem bytesF_range (ss : List Int) : ∀ z ∈ bytesF ss, 0 ≤ z ∧ z ≤ 255 := by
  intro z hz
  simp only [bytesF, List.mem_flatMap] at hz
  obtain ⟨s, _, h⟩ := hz
  exact encL_bytes _ (fixS_sc s) z h

set_option maxHeartbeats 800000 in
theorem bytes_any (n : Nat) (A : Option Addr) (cap : Nat) (ss : List Int) (w : World) (hn : n = ss.length) (hr : Rd w w.heap.size A (ss.map (Value.int .i64))) (hl : ss.length ≤ 1048576) (hc : ss.length ≤ cap) :
    Calls Try.prog 17 #[.slice A n cap] w fun e w' => ∃ v, e = .returned v ∧ OwnI .u8 5 w' w.heap.size v (bytesF ss) ∧ Below w.heap.size w w' := by
  subst hn
  have HR := Lib.hid hr
  clear hr
  go_enter Try.func17, Try.ntmps17
  go_wp2
  go_loopw [3, 8] (fun v k wr => ∃ (K : Nat), K ≤ ss.length ∧ k = .int .i64 K ∧ OwnI .u8 5 wr w.heap.size v (bytesF (ss.take K)) ∧ Below w.heap.size w wr) (fun _ k _ => ss.length - (intOf k).toNat)
  case atStart => exact ⟨0, by omega, rfl, World.ownsRow_nil _ _ _ _, Below.refl _ _⟩
  case round =>
    obtain ⟨K, hK, rfl, hown, hb⟩ := hrel
    have HO := Lib.hid hown
    clear hown
    by_cases hKl : K = ss.length
    · have hfin : ss.take K = ss := by rw [hKl]; exact List.take_length
      have HF := Lib.hid hfin
      have hKl' : ¬ K < ss.length := by omega
      clear hfin hKl
      go_wp2
      go_ret
      exact ⟨_, rfl, by have := HO.out; rw [HF.out] at this; exact this, hb⟩
    have hKl' : K < ss.length := by omega
    obtain ⟨b, off, rfl, hbl, hcell⟩ := rd_ints (HR.out.below hb hb.size) (by omega)
    have hx := hcell K hKl'
    obtain ⟨x, hxe⟩ : ∃ x, x = ss.getD K 0 := ⟨_, rfl⟩
    rw [← hxe] at hx
    have htk : ss.take (K + 1) = ss.take K ++ [x] := by rw [List.take_succ_eq_append_getElem hKl', hxe]; simp [List.getD_eq_getElem?_getD, hKl']
    have HTK := Lib.hid htk
    have hln := bytesF_len (ss.take K)
    rw [List.length_take] at hln
    have hmin : min K ss.length ≤ 1048576 := by omega
    clear hcell hxe htk
    go_wp2_with fail
    refine (push_any w.heap.size _ (bytesF (ss.take K)) _ _ HO.out (by omega) hb.size).mono ?_
    rintro e w1 ⟨v1, rfl, hown1, hg1⟩
    have HO1 := Lib.hid hown1
    have hb1 := below_own (B := w.heap.size) hb hg1 HO.out (Nat.le_refl _) hb.size
    clear hown1 hln hmin
    go_wp2
    exact ⟨⟨K + 1, by omega, by go_num, by have := HO1.out; rw [HTK.out, bytesF_snoc]; exact this, hb1⟩, by simp [intOf]; omega⟩
end Go.Proofs.Ytbigbkplhlmbmaa
