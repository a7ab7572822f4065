/- Layer 7: the contract of Of; what it answers, in plain words. -/
import Derived.Test.YtgeecngpmcjdpaaDoorLib
import Derived.Test.YtgeecngpmcjdpaaDoorProg
import Derived.Lib.LaidTab
namespace Go.Proofs.YtgeecngpmcjdpaaDoor
set_option linter.unusedVariables false
open Go.RowKit

/-- a byte's class -/
def clF (c : Int) : Int :=
  if c ≤ 31 then 0 else if 127 ≤ c ∧ c ≤ 159 then 0 else if c = 196 then 6 else if c = 198 then 6 else if 161 ≤ c ∧ c ≤ 206 then 2 else if c = 208 then 4 else if 210 ≤ c ∧ c ≤ 211 then 4
  else if c = 209 then 15 else if c = 214 then 15 else if c = 212 then 14 else if c = 213 then 16 else if c = 215 then 16 else if c = 216 then 7 else if c = 217 then 8 else if c = 218 then 9
  else if 224 ≤ c ∧ c ≤ 228 then 3 else if c = 229 then 5 else if c = 231 then 12 else if 232 ≤ c ∧ c ≤ 235 then 10 else if 236 ≤ c ∧ c ≤ 237 then 11 else if c = 238 then 13 else 1
/-- the classes of the bytes from 160 on, as the program lists them -/
def highL : List Int := (List.range 96).map fun k : Nat => clF (160 + (k : Int))

/-- the program's table of classes, as a world holds it -/
def HighAt (w : World) : Prop := Lib.TabIs Tryd.prog w "lontar/thai.high" .i64 highL
theorem highL_at (k : Nat) (hk : k < 96) : highL.getD k 0 = clF (160 + k) := by simp [highL, hk]
theorem clF_range (c : Int) : 0 ≤ clF c ∧ clF c < 17 := by unfold clF; (repeat' split) <;> omega
theorem HighAt.cell {w : World} (h : HighAt w) (k : Nat) (hk : k < 96) : w.cell? ⟨1, k, none⟩ = some (.int .i64 (clF (160 + k))) := by
  rw [← highL_at k hk]; exact Lib.TabIs.cell h (by kernel_rfl) k (by simpa [highL] using hk)

set_option maxRecDepth 100000 in
set_option maxHeartbeats 800000 in
theorem of_any (c : Int) (w : World) (h0 : 0 ≤ c) (h1 : c ≤ 255) (hh : HighAt w) :
    Calls Tryd.prog 21 #[.int .u8 c] w fun e w' => e = .returned (.int .i64 (clF c)) ∧ w' = w := by
  by_cases ha : 160 ≤ c
  · obtain ⟨k, hk⟩ : ∃ k : Nat, c = 160 + (k : Int) := ⟨(c - 160).toNat, by omega⟩
    have hk' : k < 96 := by omega
    have hc := hh.cell k hk'
    rw [← hk] at hc
    obtain ⟨v, hv⟩ : ∃ v, clF c = v := ⟨_, rfl⟩
    rw [hv] at hc ⊢
    have e1 : c - 160 = (k : Int) := by omega
    have hk0 : (0 : Int) ≤ k := by omega
    have hk96 : (k : Int) < 96 := by omega
    clear hv hh
    go_enter Tryd.func21, Tryd.ntmps21
    go_wp2
    go_ret
    exact ⟨rfl, rfl⟩
  · have ha' : c < 160 := by omega
    by_cases h31 : c ≤ 31
    · go_enter Tryd.func21, Tryd.ntmps21
      go_wp2
      go_ret
      exact ⟨ret_int (by unfold clF; rw [if_pos h31]), rfl⟩
    · by_cases h127 : 127 ≤ c
      · go_enter Tryd.func21, Tryd.ntmps21
        go_wp2
        go_ret
        exact ⟨ret_int (by unfold clF; rw [if_neg (show ¬ c ≤ 31 by omega), if_pos (show 127 ≤ c ∧ c ≤ 159 by omega)]), rfl⟩
      · go_enter Tryd.func21, Tryd.ntmps21
        go_wp2
        go_ret
        exact ⟨ret_int (by unfold clF; (repeat' split) <;> first | rfl | omega), rfl⟩
end Go.Proofs.YtgeecngpmcjdpaaDoor
