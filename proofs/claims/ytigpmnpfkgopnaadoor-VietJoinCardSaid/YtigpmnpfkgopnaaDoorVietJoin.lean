/- VietJoin: the walk. -/
import Derived.Test.YtigpmnpfkgopnaaDoorVietE
namespace Go.Proofs.YtigpmnpfkgopnaaDoor
set_option linter.unusedVariables false
set_option linter.unusedSimpArgs false
set_option linter.unnecessarySimpa false
open Go.RowKit Go.Shelf
attribute [local go_sem] run_store_complex

theorem base_ix (P : Program) (t : TypeId) (ht : P.underlying t = some .string) (k : Int) (h0 : 0 ≤ k) (h1 : k < 16) : ∃ v : Int, 0 ≤ v ∧ v ≤ 255 ∧ ∀ W : World, (Instr.index t (.string ⟨#[97, 101, 105, 111, 117, 121, 100, 65, 69, 73, 79, 85, 89, 68, 120, 122]⟩) (.int .u8 k)).run P W = .ok (.int .u8 v) W := by
  have hs : (⟨#[97, 101, 105, 111, 117, 121, 100, 65, 69, 73, 79, 85, 89, 68, 120, 122]⟩ : ByteArray).size = 16 := rfl
  have hd : 0 ≤ k ∧ k < (⟨#[97, 101, 105, 111, 117, 121, 100, 65, 69, 73, 79, 85, 89, 68, 120, 122]⟩ : ByteArray).size := ⟨h0, by rw [hs]; omega⟩
  have hr := fun W : World => run_index_string (P := P) W t ⟨#[97, 101, 105, 111, 117, 121, 100, 65, 69, 73, 79, 85, 89, 68, 120, 122]⟩ .u8 k ht
  simp only [dif_pos hd] at hr
  refine ⟨_, ?_, ?_, hr⟩
  · omega
  · have := UInt8.toNat_lt ((⟨#[97, 101, 105, 111, 117, 121, 100, 65, 69, 73, 79, 85, 89, 68, 120, 122]⟩ : ByteArray)[k.toNat]'(by omega)); omega

set_option maxHeartbeats 3200000 in
theorem vietJoin_any (b m t : Int) (re im : Nat) (w : World) (hb : 0 ≤ b ∧ b ≤ 255) (hm : 0 ≤ m ∧ m ≤ 255) (ht : 0 ≤ t ∧ t ≤ 255) (hR : RowsV w) :
    Calls Tryd.prog 5 #[.int .u8 b, .int .u8 m, .int .u8 t, .float .f64 re, .float .f64 im] w fun e w' => e = .returned (.bool true) ∧ Below w.heap.size w w' := by
  have A0 := Lib.hid (tawake9_any w hR)
  have HR := Lib.hid hR
  obtain ⟨k, hk⟩ : ∃ k, b % 16 = k := ⟨_, rfl⟩
  obtain ⟨v, v0, v1, hix⟩ := base_ix Tryd.prog 9 Tryd.underlying9 k (by omega) (by omega)
  have k0 : 0 ≤ k := by omega
  have k1 : k < 16 := by omega
  clear hR
  go_enter Tryd.func5, Tryd.ntmps5
  go_wp2_with fail
  refine A0.out.mono ?_
  rintro e w1 ⟨rfl, hb1⟩
  have HR1 := Lib.hid (HR.out.below hb1)
  have hs1 := hb1.size
  have HB1 := Lib.hid hb1
  clear hb1
  go_wp2_with fail
  obtain ⟨fm, hfm⟩ : ∃ x, floatOfInt FloatKind.f64 (m % 6) = x := ⟨_, rfl⟩
  obtain ⟨ft, hft⟩ : ∃ x, floatOfInt FloatKind.f64 (t % 7) = x := ⟨_, rfl⟩
  rw [hfm, hft]
  obtain ⟨cs, hcs⟩ : ∃ cs : Array Value, #[.complex .f64 fm ft, .complex .f64 re ft, .complex .f64 fm im, .complex .f64 re im] = cs := ⟨_, rfl⟩
  have hcell : ∀ k, k < 4 → ∃ x y, cs[k]? = some (.complex .f64 x y) := by
    intro k hk
    rw [← hcs]
    match k, hk with
    | 0, _ => exact ⟨_, _, rfl⟩
    | 1, _ => exact ⟨_, _, rfl⟩
    | 2, _ => exact ⟨_, _, rfl⟩
    | 3, _ => exact ⟨_, _, rfl⟩
  have q := Held.new w1 cs 27
  have hb2 := HB1.out.alloc hs1 (.cells cs 27)
  have hR2 := HR1.out.below ((Below.refl _ w1).alloc (Nat.le_refl _) (.cells cs 27))
  rw [hcs]
  obtain ⟨W2, hW2⟩ : ∃ W2, w1.alloc (.cells cs 27) = W2 := ⟨_, rfl⟩
  obtain ⟨g, hg⟩ : ∃ g, w1.heap.size = g := ⟨_, rfl⟩
  rw [hW2] at q hb2 hR2 ⊢
  rw [hg] at q ⊢
  have HQ := Lib.hid q
  have HB2 := Lib.hid hb2
  have HR2 := Lib.hid hR2
  have HC := Lib.hid hcell
  clear hW2 hg q hb2 hR2 hs1 HR1 HB1 hcell hcs hfm hft A0 HR hix hk
  go_loopw [46] (fun i wr => ∃ I : Nat, I ≤ 4 ∧ i = .int .i64 I ∧ Hid (Held wr g cs 27) ∧ Hid (RowsV wr) ∧ Hid (Below w.heap.size w wr)) (fun i _ => 4 - (intOf i).toNat)
  case atStart => exact ⟨0, by omega, rfl, HQ, HR2, HB2⟩
  case round =>
    clear HQ HR2 HB2
    obtain ⟨I, hI, rfl, HQ, HR, HB⟩ := hrel
    by_cases hI3 : I = 4
    · subst hI3
      go_wp2
      go_ret
      exact ⟨rfl, HB.out⟩
    have hI' : I < 4 := by omega
    have hIi : (I : Int) < 4 := by omega
    have hIi0 : (0 : Int) ≤ I := by omega
    obtain ⟨x, y, hx⟩ := HC.out I hI'
    have cx := (HQ.out.cell I).trans hx
    obtain ⟨s, hs⟩ : ∃ s, jS (joinF v x y) = s := ⟨_, rfl⟩
    obtain ⟨z, hz⟩ : ∃ z, (joinF v x y).isSome = z := ⟨_, rfl⟩
    have HS1 := Lib.hid (join_any v x y wr HR.out)
    have HS2 := Lib.hid (fun W => ljoin_any v x y W)
    rw [hs, hz] at HS1 HS2
    have hzz : (z != z) = false := by simp
    have hss : (s != s) = false := by simp
    have hlt := HQ.out.lt
    clear hx hs hz
    go_wp2_with fail
    refine HS1.out.mono ?_
    rintro e w2 ⟨rfl, hb2⟩
    have HQ2 := Lib.hid (HQ.out.below hb2 hlt)
    have HR2 := Lib.hid (HR.out.below hb2)
    have HB2 := Lib.hid (HB.out.trans (hb2.mono HB.out.size))
    have hlt2 := HQ2.out.lt
    have hsz2 := HB2.out.size
    clear hb2
    go_wp2_with fail
    refine (HS2.out w2).mono ?_
    rintro e w4 ⟨rfl, hb4⟩
    have HQ4 := Lib.hid (HQ2.out.below hb4 hlt2)
    have HR4 := Lib.hid (HR2.out.below hb4)
    have HB4 := Lib.hid (HB2.out.trans (hb4.mono hsz2))
    clear hb4
    go_wp2
    go_roundw
    case rel => exact ⟨I + 1, by omega, by go_num, HQ4, HR4, HB4⟩
    case measure => simp [intOf]; omega
end Go.Proofs.YtigpmnpfkgopnaaDoor
