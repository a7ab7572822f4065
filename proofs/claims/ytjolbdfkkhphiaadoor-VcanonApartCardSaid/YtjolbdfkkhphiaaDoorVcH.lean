/- Layer 10: the document's examples hold; contracts in the laws' form. -/
import Derived.Test.YtjolbdfkkhphiaaDoorVcB
import Derived.Test.YtjolbdfkkhphiaaDoorVcD
import Derived.Test.YtjolbdfkkhphiaaDoorVcF
namespace Go.Proofs.YtjolbdfkkhphiaaDoor
set_option linter.unusedVariables false
set_option linter.unusedSimpArgs false
set_option linter.unnecessarySimpa false
open Go.RowKit Go.Shelf
attribute [local go_sem] run_store_complex

/-- what a call of All, Apart, canon, Some leaves: a row of its own -/
def Row (w : World) (ys : List Int) (m : Nat) (e : Ending) (w' : World) : Prop := ∃ A c, e = .returned (.slice A m c) ∧ IR w' w.heap.size (.slice A m c) ys ∧ m ≤ c ∧ c ≤ maxLen ∧ Below w.heap.size w w'
theorem row_of {w w' : World} {e : Ending} {v : Value} {zs ys : List Int} {m : Nat} (hy : zs = ys) (hm : ys.length = m) (he : e = .returned v) (h : IR w' w.heap.size v zs) (hb : Below w.heap.size w w') : Row w ys m e w' := by
  subst hy hm
  obtain ⟨A, c, rfl, h1, h2⟩ := h.form
  exact ⟨A, c, he, h, h1, h2, hb⟩
theorem all_at (n : Nat) (A : Option Addr) (cap : Nat) (zs : List Int) (w : World) (hn : n = zs.length) (hr : RI w A zs) (hl : zs.length ≤ 1000000) (hR : RowsV w) (ys : List Int) (hy : cGo 0 zs = ys) (m : Nat) (hm : ys.length = m) :
    Calls Tryd.prog 13 #[.slice A n cap] w (Row w ys m) :=
  (all10_any n A cap zs w hn hr hl hR).mono fun e w' ⟨v, he, h, hb⟩ => row_of hy hm he h hb
theorem canon_at (n : Nat) (A : Option Addr) (cap : Nat) (zs : List Int) (w : World) (hn : n = zs.length) (hr : RI w A zs) (hl : zs.length ≤ 1000000) (ys : List Int) (hy : cGo 0 zs = ys) (m : Nat) (hm : ys.length = m) :
    Calls Tryd.prog 14 #[.slice A n cap] w (Row w ys m) :=
  (canon_any n A cap zs w hn hr hl).mono fun e w' ⟨v, he, h, hb⟩ => row_of hy hm he h hb
theorem apart_at (n : Nat) (A : Option Addr) (cap : Nat) (zs : List Int) (w : World) (hn : n = zs.length) (hr : RI w A zs) (hl : zs.length ≤ 1000000) (hT : TabV w) (ys : List Int) (hy : apF zs = ys) (m : Nat) (hm : ys.length = m) :
    Calls Tryd.prog 20 #[.slice A n cap] w (Row w ys m) :=
  (apart_any n A cap zs w hn hr hl hT).mono fun e w' ⟨v, he, h, hb⟩ => row_of hy hm he h hb
theorem some_at (n : Nat) (A : Option Addr) (cap : Nat) (l : List Int) (w : World) (hn : n = l.length) (hr : Rd w w.heap.size A (l.map (Value.int .u8))) (hc : n ≤ cap) (hw : ∀ z ∈ l, 0 ≤ z ∧ z ≤ 255) (ys : List Int) (hy : someF l = ys) (m : Nat) (hm : ys.length = m) :
    Calls Tryd.prog 11 #[.slice A n cap] w (Row w ys m) :=
  (some10_any n A cap l w hn hr hc hw).mono fun e w' ⟨v, he, h, hb⟩ => row_of hy hm he h hb

theorem aw_a : cGo 0 [101, 769, 770] = [7871] := by decide +kernel
theorem aw_b : cGo 0 [120, 769] = [120, 769] := by decide +kernel
theorem aw_c : apF [7871, 273] = [101, 770, 769, 273] := by decide +kernel

set_option maxHeartbeats 3200000 in
theorem awake10_any (w : World) (hT : TabV w) : Calls Tryd.prog 10 #[] w fun e w' => e = .returned (.bool true) ∧ Below w.heap.size w w' := by
  have HT := Lib.hid hT
  clear hT
  go_enter Tryd.func10, Tryd.ntmps10
  go_wp2_with fail
  have hb0 := (Below.refl w.heap.size w).alloc (Nat.le_refl _) (.cells #[.int .i64 101, .int .i64 769, .int .i64 770] 3)
  refine (all_at 3 _ 3 [101, 769, 770] _ rfl (rd_new_ints w .i64 [101, 769, 770] _ _ rfl) (by decide) (HT.out.below hb0).rows [7871] aw_a 1 rfl).mono ?_
  rintro e w1 ⟨A1, c1, rfl, hr1, hc1, hd1, hb1⟩
  have HB1 := Lib.hid (hb0.trans (hb1.mono (by simp)))
  have HR1 := Lib.hid hr1.rd
  have hs1 := HB1.out.size
  clear hb0 hr1 hb1
  go_wp2_with fail
  have hb0 := (Below.refl w1.heap.size w1).alloc (Nat.le_refl _) (.cells #[.int .i64 120, .int .i64 769] 3)
  refine (all_at 2 _ 2 [120, 769] _ rfl (rd_new_ints w1 .i64 [120, 769] _ _ rfl) (by decide) ((HT.out.below HB1.out).below hb0).rows [120, 769] aw_b 2 rfl).mono ?_
  rintro e w2 ⟨A2, c2, rfl, hr2, hc2, hd2, hb2⟩
  have hb12 := hb0.trans (hb2.mono (by simp))
  have HB2 := Lib.hid (HB1.out.trans (hb12.mono hs1))
  have HR2 := Lib.hid (HR1.out.below hb12)
  have hs2 := HB2.out.size
  clear hb0 hr2 hb2 hb12 HB1 HR1 hs1
  go_wp2_with fail
  have hb0 := (Below.refl w2.heap.size w2).alloc (Nat.le_refl _) (.cells #[.int .i64 7871, .int .i64 273] 3)
  refine (apart_at 2 _ 2 [7871, 273] _ rfl (rd_new_ints w2 .i64 [7871, 273] _ _ rfl) (by decide) ((HT.out.below HB2.out).below hb0) [101, 770, 769, 273] aw_c 4 rfl).mono ?_
  rintro e w3 ⟨A3, c3, rfl, hr3, hc3, hd3, hb3⟩
  have hb23 := hb0.trans (hb3.mono (by simp))
  have HB3 := Lib.hid (HB2.out.trans (hb23.mono hs2))
  obtain ⟨b, o, rfl, _, hcb⟩ := rd_ints (HR2.out.below hb23) (by decide)
  obtain ⟨b', o', rfl, _, hcb'⟩ := rd_ints hr3.rd (by decide)
  have k0 : w3.cell? ⟨b, o, none⟩ = some (.int .i64 7871) := hcb 0 (by decide)
  have k1 : w3.cell? ⟨b', o', none⟩ = some (.int .i64 101) := hcb' 0 (by decide)
  have k2 : w3.cell? ⟨b', o' + 1, none⟩ = some (.int .i64 770) := hcb' 1 (by decide)
  have k3 : w3.cell? ⟨b', o' + 2, none⟩ = some (.int .i64 769) := hcb' 2 (by decide)
  have k4 : w3.cell? ⟨b', o' + 3, none⟩ = some (.int .i64 273) := hcb' 3 (by decide)
  clear hb0 hr3 hb3 hb23 HB2 HR2 hs2 hcb hcb'
  go_wp2
  go_ret
  exact ⟨rfl, HB3.out⟩
end Go.Proofs.YtjolbdfkkhphiaaDoor
