/- UtfCoverUptoSaid: whatever the arguments, of bulk at most 1048576, are, the law answers true and its arguments read as before. Conditions: none beyond the statement's own. -/
import Derived.Test.YtocfbghfmbldaaaRows
import Derived.Test.YtocfbghfmbldaaaUtfCover
import Derived.ProofKit
import Derived.OpenShut
import Derived.ShutString
import Derived.ChangeOld
import Derived.Below
import Derived.JoinedCond
namespace Go.Proofs.Ytocfbghfmbldaaa.utfCover
open Go.ChangeShapes Go.WideShapes Go.ChangeAt Go.RowKit
open Go.ChangeMaps (open_string shut_string)
set_option linter.unusedVariables false

theorem own : ownKnob Try.prog.godebug = none := by kernel_rfl
theorem laidOut : laidOutB Try.prog = true := by kernel_rfl

theorem one_le {H : Type} (d : DataW H) : 1 ≤ Rows.uptoBulk d := by
  cases d with
  | lit l => cases l <;> simp [Rows.uptoBulk]
  | _ => simp [Rows.uptoBulk]
theorem len_le {H : Type} : ∀ l : List (DataW H), l.length ≤ Rows.uptoBulkAll l
  | [] => by simp
  | d :: l => by have := one_le d; have := len_le l; simp only [Rows.uptoBulkAll, List.length_cons]; omega
theorem slice_le {H : Type} (k : IntKind) (xs ys : List Int) : xs.length ≤ Rows.uptoBulk (H := H) (.slice (lits k xs) (lits k ys)) := by
  have := len_le (H := H) (lits k xs)
  have e : (lits (H := H) k xs).length = xs.length := by simp [lits]
  simp only [Rows.uptoBulk]; omega
theorem str_le {H : Type} (s : ByteArray) : s.size ≤ Rows.uptoBulk (DataW.lit (H := H) (.string s.data.toList)) := by
  have e : s.data.toList.length = s.size := by rw [Array.length_toList]; rfl
  simp only [Rows.uptoBulk]; omega

theorem contract (H : Type) (enc : TypeId × Value → H) (W : World) (base : Nat) (args : Array Value) (ds gs : List (DataW H)) (before : List MemPlace)
    (hval : ∀ (j : Nat) t v, Try.f5.params[j]? = some t → args[j]? = some v → Value.okWide Try.prog W .any base t v)
    (hW : DataW.Whole enc Try.prog Try.f5.params.toList Rows.utfCoverSpec.vars false W args.toList ds gs before) (hk : Rows.uptoSmall H (ds ++ gs) = true) :
    Calls Try.prog 5 args W fun e W' => ∃ v, e = .returned v ∧ Rows.utfCoverSpec.post enc Try.prog Try.f5 false true false false W args v W' := by
  have hW' := hW
  obtain ⟨p, q, hA0, hV, rfl, hfz, hnd⟩ := hW
  have hA : DataW.TrodAll enc Try.prog W 0 (fun _ => true) true Try.f5.params.toList args.toList ds p := hA0
  rw [Try.params5] at hA hval
  obtain ⟨v0, vs0, d0, ds0, p0, q0, hargs, rfl, rfl, h0, r0⟩ := trodAll_cons hA
  obtain ⟨rfl, rfl, rfl⟩ := trodAll_nil r0
  obtain rfl : args = #[v0] := by cases args; simp_all
  obtain ⟨rfl, rfl⟩ := trodVars_none hV
  obtain ⟨A0, len0, cap0, rfl⟩ := okWide_slice Try.underlying23 (hval 0 23 v0 rfl rfl)
  have k0 := h0
  have lt0 : ∀ x ∈ p0, x.block < W.heap.size := by obtain ⟨m, hm⟩ := k0; exact DataW.trod_lt m _ _ _ hm
  obtain ⟨zs0, ys0, n0, c0, b0, g0, e0⟩ : ∃ zs ys : List Int, zs.length = len0 ∧ len0 ≤ cap0 ∧ (∀ z ∈ zs, 0 ≤ z ∧ z ≤ 255) ∧ Rd W W.heap.size A0 (zs.map (Value.int .u8)) ∧ (d0 = .nil ∧ zs = [] ∨ d0 = .slice (lits .u8 zs) (lits .u8 ys)) := by
    obtain ⟨fuel, hf⟩ := h0
    rcases open_ints Try.underlying23 Try.underlying5 (by kernel_rfl) hf with ⟨hcs, hx⟩ | ⟨x, l, c, zs, hcs, _, hl, hm, hz, hx, hcell, hwz⟩
    · simp [Value.cells] at hcs
      obtain ⟨rfl, rfl, rfl⟩ := hcs
      exact ⟨[], [], rfl, Nat.le_refl _, by simp, Rd.nil, .inl ⟨by injection hx, rfl⟩⟩
    · simp [Value.cells] at hcs
      obtain ⟨rfl, rfl, rfl⟩ := hcs
      have hz' : zs.length = cap0 := by simpa using hz
      have hlt : 0 < zs.length → x.block < W.heap.size := fun h0 => by
        have := hcell 0 h0
        obtain ⟨bb, oo, rfl, _⟩ := ints_at hcell h0
        have h1 := hcell 0 h0
        rcases Nat.lt_or_ge bb W.heap.size with hl | hg
        · exact hl
        · simp [World.cell?, Addr.add, Array.getElem?_eq_none hg] at h1
      refine ⟨zs.take len0, zs.drop len0, by simp; omega, hl, fun z hz => ?_, ?_, .inr (by injection hx)⟩
      · have h2 := hwz z (List.mem_of_mem_take hz)
        simpa [Lit.wf, IntKind.min, IntKind.max, IntKind.signed, IntKind.bits] using h2
      · by_cases h0 : 0 < zs.length
        · obtain ⟨bb, oo, rfl, hc⟩ := ints_at hcell h0
          refine .inr ⟨bb, oo, rfl, hlt h0, fun j hj => ?_⟩
          obtain ⟨q1, q2⟩ : j < len0 ∧ j < zs.length := by simp at hj; omega
          rw [hc j q2]
          simp [List.getElem?_map, List.getD_eq_getElem?_getD, q1, List.getElem?_eq_getElem q2]
        · have : zs = [] := List.eq_nil_of_length_eq_zero (by omega)
          subst this
          exact .inl (by simp)
  subst n0
  clear hA0
  have l0 : zs0.length ≤ Rows.uptoBulk (H := H) d0 := by
    rcases e0 with ⟨rfl, rfl⟩ | rfl
    · simp
    · exact slice_le _ _ _
  have hk' : Rows.uptoBulkAll _ ≤ 1048576 := of_decide_eq_true hk
  simp only [List.append_nil, Rows.uptoBulkAll] at hk'
  refine (utfCover_any A0 cap0 zs0 W g0 c0 b0 (show zs0.length ≤ 1048576 by omega)).mono fun e W' ⟨he, bel⟩ => ?_
  subst he
  exact ⟨_, rfl, _, _, _, [], _, [], hW', trodAll_mk1 (shut_bool Try.underlying4 _), (trodAll_cons_mk (Below.trod laidOut (by kernel_rfl) (of_decide_eq_true (by kernel_rfl)) k0 bel lt0) trodAll_mk0), rfl, bel.frame _, fun h => by cases h⟩

set_option maxRecDepth 100000 in
theorem lifted (os : Os) (started : os.Started) (H : Type) (enc : TypeId × Value → H) (F : Stop.Interp) :
    ReturnsInHanded {} Try.checked os 5 .any ((Rows.OpenSpec.upto Rows.utfCoverSpec).pre6 enc Try.prog Try.f5 Rows.utfCoverUptoRow.domain false) (((Rows.OpenSpec.upto Rows.utfCoverSpec).at F).post enc Try.prog Try.f5 false true false false) := by
  refine returnsInHanded_of_cond (C := Try.checked) (s := Rows.OpenSpec.upto Rows.utfCoverSpec) (k := Rows.uptoSmall) rfl own started (by kernel_rfl) Try.func5
    (OpenSpec.witness (enc := enc) (C := Try.checked) (s := Rows.OpenSpec.upto Rows.utfCoverSpec) (k := Rows.uptoSmall) rfl false ⟨#[], #[.slice none 0 0], []⟩ 8 (by kernel_rfl) (by kernel_rfl) (by kernel_rfl)
      (x := ([.nil], [], [])) (by kernel_rfl) rfl (by kernel_rfl)) ?_
  intro W base args ds gs before hval hW _ hk _
  exact contract H enc W base args ds gs before hval hW hk

/-- the statement -/
theorem proved : Rows.UtfCoverUptoSaid :=
  OpenClaim.holds_of_cond 5 Try.f5 rfl rfl rfl rfl rfl rfl rfl ⟨rfl, rfl, rfl, rfl, rfl⟩ rfl rfl rfl rfl rfl (by kernel_rfl) Try.func5 (by kernel_rfl)
    (of_decide_eq_true (by kernel_rfl)) (by unfold Func.isWrapper; first | (rw [if_pos (by decide +kernel)]; kernel_rfl) | (rw [if_neg (by decide +kernel)]; exact ⟨rfl, rfl⟩))
    (fun os started H enc _ F => lifted os started H enc F)
end Go.Proofs.Ytocfbghfmbldaaa.utfCover
