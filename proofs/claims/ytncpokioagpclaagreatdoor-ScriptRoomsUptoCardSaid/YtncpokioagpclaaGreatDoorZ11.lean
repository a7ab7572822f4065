/- Texts of this seat, one behind the other: CdA. -/
import Derived.Test.YtncpokioagpclaaGreatDoorZ9
import Derived.Test.YtncpokioagpclaaGreatDoorZ3
import Derived.Test.YtncpokioagpclaaGreatDoorZ10
namespace Go.Proofs.YtncpokioagpclaaGreatDoor
set_option linter.unusedVariables false
set_option linter.unusedSimpArgs false
set_option linter.unnecessarySimpa false
open Go.RowKit
/-- the names, as bytes -/
def nmB (k : Nat) : ByteArray := ([⟨#[117, 116, 102, 45, 56]⟩, ⟨#[97, 115, 99, 105, 105]⟩, ⟨#[118, 105, 115, 99, 105, 105]⟩, ⟨#[116, 99, 118, 110, 51]⟩, ⟨#[118, 110, 105]⟩, ⟨#[116, 105, 115, 45, 54, 50, 48]⟩, ⟨#[116, 115, 99, 105, 105]⟩, ⟨#[105, 115, 99, 105, 105]⟩] : List ByteArray).getD k ⟨#[]⟩
def nmC : Array Value := #[.string (nmB 0), .string (nmB 1), .string (nmB 2), .string (nmB 3), .string (nmB 4), .string (nmB 5), .string (nmB 6), .string (nmB 7)]
theorem names_cell (w : World) (k : Nat) (h : k < 8) : (w.alloc (.cells nmC 9)).cell? ⟨w.heap.size, k, none⟩ = some (.string (nmB k)) := by
  rw [(Held.new w nmC 9).cell k]
  match k, h with
  | 0, _ => rfl
  | 1, _ => rfl
  | 2, _ => rfl
  | 3, _ => rfl
  | 4, _ => rfl
  | 5, _ => rfl
  | 6, _ => rfl
  | 7, _ => rfl
/-- tokens of layer 1 -/
def tkOf (t : Tok) : Tk := ⟨t.pos, t.size, t.out, t.err⟩
/-- a row of ints of one's own as a slice of units -/
theorem IR.usX {X : Nat → Prop} {w : World} {base n c : Nat} {A : Option Addr} {us : List Int} (hn : us.length = n) (h : IR w base (.slice A n c) us) (hX : ∀ b, base ≤ b → X b) : Us X w (.slice A n c) us := by
  obtain ⟨A', c', e, h1, h2⟩ := h.form
  refine ⟨A, c, by rw [hn], ?_, ?_, ?_⟩
  · injection e with _ _ e3; rw [e3]; exact h1
  · injection e with _ _ e3; rw [e3]; exact h2
  have hr : RI w A us := h.rd
  rcases Rd.rdx hr with h3 | ⟨b, off, h4, h5, _, h7⟩
  · exact .inl h3
  · refine .inr ⟨b, off, h4, h5, hX b ?_, h7⟩
    injection e with e1 e2 e3
    rcases h.2 with ⟨h8, _⟩ | ⟨g, cap, cur, h8, h9, _⟩
    · rw [h4] at h8; cases h8
    · rw [h4] at h8
      injection h8 with h8
      injection h8 with h8
      injection h8 with h8
      omega
end Go.Proofs.YtncpokioagpclaaGreatDoor
