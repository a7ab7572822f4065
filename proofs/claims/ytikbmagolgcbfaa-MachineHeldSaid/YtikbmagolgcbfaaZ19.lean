/- Texts of this seat, one behind the other: ReadRows. -/
import Derived.Test.YtikbmagolgcbfaaRead
import Derived.Test.YtikbmagolgcbfaaZ9
namespace Go.Proofs.Ytikbmagolgcbfaa
open Go.ChangeShapes Go.WideShapes Go.ChangeAt Go.RowKit Go.Deep
set_option linter.unusedVariables false
set_option maxRecDepth 100000
section
variable {H : Type} {enc : TypeId × Value → H} {w : World} {spare : Nat → Bool} {held : Bool}
def RowE (F : Prop) (w : World) (cs : List Value) (r : RowL) : Prop := ∃ a b c d, cs = [a, b, .bool r.odd, c, d] ∧ Bs (· < w.heap.size) w a r.inp ∧ Bs (· < w.heap.size) w b r.out ∧ Us (· < w.heap.size) w c r.ain ∧ Us (· < w.heap.size) w d r.aout ∧ (F → r.ain.length * 8 ≤ reachBytes ∧ r.aout.length * 8 ≤ reachBytes)
theorem us_read {A : Option Addr} {n c : Nat} {zs : List Int} (hn : n = zs.length) (hc : n ≤ c) (hm : c ≤ maxLen) (h : Rd w w.heap.size A (zs.map (Value.int .i64))) : Us (· < w.heap.size) w (.slice A n c) zs := us_at hn hc hm h
theorem bs_read {A : Option Addr} {n c : Nat} {zs : List Int} (hn : n = zs.length) (hc : n ≤ c) (hm : c ≤ maxLen) (h : Rd w w.heap.size A (zs.map (Value.int .u8))) (hw : ∀ z ∈ zs, (Lit.int .u8 z).wf = true) : Bs (· < w.heap.size) w (.slice A n c) zs := by
  subst hn; exact ⟨A, c, rfl, hc, hm, h.rdx, fun z hz => wf_u8 (hw z hz)⟩
theorem read_row {F : Prop} {n : Nat} {cs : List Value} {d : DataW H} {p : List MemPlace} (h : DataW.trod enc Try.prog w 0 spare held n 97 cs = some (d, p)) (hl : cs.length = 5) (hF : F → Fit Try.prog 97 d) : ∃ r, RowE F w cs r := by
  obtain ⟨xs, m, _, hx, _, hxl, hf⟩ := DataW.trod_struct Try.underlying97 h
  have c1 : Try.prog.cellsOf 23 = 1 := by kernel_rfl
  have c2 : Try.prog.cellsOf 4 = 1 := by kernel_rfl
  have c3 : Try.prog.cellsOf 54 = 2 := by kernel_rfl
  have c4 : Try.prog.cellsOf 5 = 1 := by kernel_rfl
  have c5 : Try.prog.cellsOf 3 = 1 := by kernel_rfl
  have c6 : Try.prog.cellsOf 37 = 1 := by kernel_rfl
  have c7 : Try.prog.bytesOf 3 = 8 := by kernel_rfl
  match cs, hl with
  | [a, b, o, c, e], _ =>
    match xs, hxl with
    | [y0, y1, y2, y3], _ =>
      have h0 := hf 0 _ rfl
      have h1 := hf 1 _ rfl
      have h2 := hf 2 _ rfl
      have h3 := hf 3 _ rfl
      simp only [List.getElem?_cons_zero, List.getElem?_cons_succ] at h0 h1 h2 h3
      obtain ⟨A0, n0, k0, z0, rfl, l0, f0, m0, r0, w0, _, _⟩ := read_ints Try.underlying23 Try.underlying5 c4 h0
      obtain ⟨A1, n1, k1, z1, rfl, l1, f1, m1, r1, w1, _, _⟩ := read_ints Try.underlying23 Try.underlying5 c4 h1
      obtain ⟨bo, ho, _⟩ := DataW.trod_bool Try.underlying4 h2
      injection ho with ho
      subst ho
      obtain ⟨ys, m', _, hy, _, hyl, hg⟩ := DataW.trod_struct Try.underlying54 h3
      match ys, hyl with
      | [u0, u1], _ =>
        have g0 := hg 0 _ rfl
        have g1 := hg 1 _ rfl
        simp only [List.getElem?_cons_zero, List.getElem?_cons_succ] at g0 g1
        obtain ⟨A3, n3, k3, z3, rfl, l3, f3, m3, r3, w3, b3, _⟩ := read_ints Try.underlying37 Try.underlying3 c5 g0
        obtain ⟨A4, n4, k4, z4, rfl, l4, f4, m4, r4, w4, b4, _⟩ := read_ints Try.underlying37 Try.underlying3 c5 g1
        refine ⟨⟨z0, z1, bo, z3, z4⟩, _, _, _, _, rfl, bs_read l0 f0 m0 r0 w0, bs_read l1 f1 m1 r1 w1, us_read l3 f3 m3 r3, us_read l4 f4 m4 r4, fun hF' => ?_⟩
        have hd := hF hF'
        have ed : d = .agg ([y0, y1, y2, y3].map (·.1)) := by injection hx
        rw [ed] at hd
        have hd3 : Fit Try.prog 54 y3.1 := hd.field (i := 3) Try.underlying97 rfl rfl
        have e3 : y3.1 = .agg ([u0, u1].map (·.1)) := by rw [hy]
        rw [e3] at hd3
        have t0 := b3 (hd3.field (i := 0) Try.underlying54 rfl rfl)
        have t1 := b4 (hd3.field (i := 1) Try.underlying54 rfl rfl)
        rw [c7] at t0 t1
        exact ⟨by rw [← l3]; exact t0, by rw [← l4]; exact t1⟩
theorem rows_of {F : Prop} : ∀ (ps : List (List Value × RowL)), (∀ p ∈ ps, RowE F w p.1 p.2) → Rws (· < w.heap.size) w (ps.flatMap (·.1)) (ps.map (·.2))
  | [], _ => trivial
  | (cs, r) :: ps, h => by
    obtain ⟨a, b, c, d, e, h1, h2, h3, h4, _⟩ := h (cs, r) (by simp)
    have ih := rows_of ps (fun p hp => h p (by simp [hp]))
    simp only at e
    rw [List.flatMap_cons, e]
    exact ⟨h1, h2, rfl, h3, h4, ih⟩
theorem read_rows {fuel : Nat} {v : Value} {x : DataW H × List MemPlace} (h : DataW.trod enc Try.prog w 0 spare held fuel 22 [v] = some x) :
    ∃ A n c rows, v = .slice A n c ∧ RwAt w w.heap.size A n c rows ∧ (Fit Try.prog 22 x.1 → ∀ r ∈ rows, r.ain.length * 8 ≤ reachBytes ∧ r.aout.length * 8 ≤ reachBytes) ∧ (Fit Try.prog 22 x.1 → n * 104 ≤ reachBytes) := by
  obtain ⟨A, n, c, ps, hv, h1, h2, h3, h4, h5, h7, _⟩ := read_slice (E := RowE (Fit Try.prog 22 x.1) w) (size := 5) Try.underlying22 (by kernel_rfl) h (fun n cs d p ht hl hf => read_row ht hl hf)
  refine ⟨A, n, c, ps.map (·.2), hv, ⟨by simpa using h1, h2, h3, _, h4, rows_of ps h5⟩, fun hF r hr => ?_, fun hF => ?_⟩
  · obtain ⟨p, hp, rfl⟩ := List.mem_map.1 hr
    obtain ⟨_, _, _, _, _, _, _, _, _, h6⟩ := h5 p hp
    exact h6 hF
  · have := h7 hF
    rw [show Try.prog.bytesOf 97 = 104 from by kernel_rfl] at this
    exact this
end
end Go.Proofs.Ytikbmagolgcbfaa
