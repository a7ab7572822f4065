/- Layer 1: the laws' own Units and Same answer true of equal rows. -/
import Derived.Test.YtbigbkplhlmbmaaUtfOwn
namespace Go.Proofs.Ytbigbkplhlmbmaa
set_option linter.unusedVariables false
open Go.RowKit

set_option maxHeartbeats 800000 in
theorem units_true (n : Nat) (A A' : Option Addr) (c c' : Nat) (zs : List Int) (B : Nat) (w : World) (hn : n = zs.length) (hr : Rd w B A (zs.map (Value.int .i64))) (hr' : Rd w B A' (zs.map (Value.int .i64))) (hl : zs.length ≤ 140737488355328) :
    Calls Try.prog 31 #[.slice A n c, .slice A' n c'] w fun e w' => e = .returned (.bool true) ∧ ∃ m, w' = w.drewN m := by
  subst hn
  have HR := Lib.hid hr
  have HR' := Lib.hid hr'
  clear hr hr'
  go_enter Try.func31, Try.ntmps31
  go_wp2
  go_loopw [13] (fun i wr => ∃ K m : Nat, K ≤ zs.length ∧ i = .int .i64 K ∧ wr = w.drewN m) (fun i _ => zs.length - (intOf i).toNat)
  case atStart => exact ⟨0, 0, by omega, rfl, rfl⟩
  case round =>
    obtain ⟨K, m, hK, rfl, rfl⟩ := hrel
    by_cases hKl : K = zs.length
    · have hKl' : ¬ K < zs.length := by omega
      clear hKl
      go_wp2
      go_ret
      exact ⟨rfl, m, rfl⟩
    have hKl' : K < zs.length := by omega
    obtain ⟨b, o, rfl, _, hc⟩ := rd_ints HR.out (by omega)
    obtain ⟨b', o', rfl, _, hc'⟩ := rd_ints HR'.out (by omega)
    have k1 := hc K hKl'
    have k2 := hc' K hKl'
    have k0 : (zs.getD K 0 != zs.getD K 0) = false := by simp
    have k3 : (0 : Int) ≤ K := by omega
    have k4 : (K : Int) < zs.length := by omega
    clear hc hc'
    go_wp2_with fail
    go_quiet (fail)
    go_wp2
    go_roundw
    case rel => exact ⟨K + 1, _, by omega, by go_num, rfl⟩
    case measure => simp [intOf]; omega

theorem Toks.drewN {w : World} {B : Nat} {xs : List Value} {ts : List Tok} (h : Toks w B xs ts) (n : Nat) : Toks (w.drewN n) B xs ts := Toks.keep (w := w) (w' := w.drewN n) (Nat.le_refl _) (fun _ _ _ _ _ => rfl) h
/-- cells of tokens, met at a row's place -/
theorem same_at {w : World} {B : Nat} {A : Option Addr} {xs : List Value} {ts : List Tok} (hr : Rd w B A xs) (ht : Toks w B xs ts) {k : Nat} (hk : k < ts.length) :
    ∃ b off, A = some ⟨b, off, none⟩ ∧ b < B ∧ w.cell? ⟨b, off + k * 4, none⟩ = some (.int .i64 ts[k].pos) ∧ w.cell? ⟨b, off + k * 4 + 1, none⟩ = some (.int .i64 ts[k].size) ∧
      (∃ A' c', w.cell? ⟨b, off + k * 4 + 2, none⟩ = some (.slice A' ts[k].out.length c') ∧ ts[k].out.length ≤ c' ∧ c' ≤ maxLen ∧ Rd w B A' (ts[k].out.map (Value.int .i64))) ∧ w.cell? ⟨b, off + k * 4 + 3, none⟩ = some (.int .i64 ts[k].err) := by
  obtain ⟨b, off, h1, h2, h3⟩ := toks_at hr ht (by omega)
  exact ⟨b, off, h1, h2, h3 k _ (List.getElem?_eq_getElem hk)⟩

set_option maxHeartbeats 1600000 in
theorem same_true (n : Nat) (A A' : Option Addr) (c c' : Nat) (ts : List Tok) (xs xs' : List Value) (B : Nat) (w : World) (hn : n = ts.length) (hr : Rd w B A xs) (ht : Toks w B xs ts) (hr' : Rd w B A' xs') (ht' : Toks w B xs' ts) (hl : ts.length ≤ 1073741824) (hs : ∀ t ∈ ts, t.out.length ≤ 140737488355328) :
    Calls Try.prog 23 #[.slice A n c, .slice A' n c'] w fun e w' => e = .returned (.bool true) ∧ ∃ m, w' = w.drewN m := by
  subst hn
  have HR := Lib.hid hr
  have HR' := Lib.hid hr'
  have HT := Lib.hid ht
  have HT' := Lib.hid ht'
  have HS := Lib.hid hs
  clear hr hr' ht ht' hs
  go_enter Try.func23, Try.ntmps23
  go_wp2
  go_loopw [13] (fun i wr => ∃ K m : Nat, K ≤ ts.length ∧ i = .int .i64 K ∧ wr = w.drewN m) (fun i _ => ts.length - (intOf i).toNat)
  case atStart => exact ⟨0, 0, by omega, rfl, rfl⟩
  case round =>
    obtain ⟨K, m, hK, rfl, hw⟩ := hrel
    have HW := Lib.hid hw
    clear hw
    by_cases hKl : K = ts.length
    · have hKl' : ¬ K < ts.length := by omega
      clear hKl
      go_wp2
      go_ret
      exact ⟨rfl, m, HW.out⟩
    have hKl' : K < ts.length := by omega
    obtain ⟨b, o, rfl, hb, k1, k2, ⟨A1, c1, k3, _, hm1, hr1⟩, k4⟩ := same_at (w := wr) (by rw [HW.out]; exact HR.out.drewN m) (by rw [HW.out]; exact HT.out.drewN m) hKl'
    obtain ⟨b', o', rfl, hb', q1, q2, ⟨A2, c2, q3, _, hm2, hr2⟩, q4⟩ := same_at (w := wr) (by rw [HW.out]; exact HR'.out.drewN m) (by rw [HW.out]; exact HT'.out.drewN m) hKl'
    have hsz := HS.out _ (List.getElem_mem hKl')
    obtain ⟨P, hP⟩ : ∃ x, x = ts[K].pos := ⟨_, rfl⟩
    obtain ⟨S, hS⟩ : ∃ x, x = ts[K].size := ⟨_, rfl⟩
    obtain ⟨E, hE⟩ : ∃ x, x = ts[K].err := ⟨_, rfl⟩
    obtain ⟨O, hO⟩ : ∃ x, x = ts[K].out := ⟨_, rfl⟩
    rw [← hP] at k1 q1
    rw [← hS] at k2 q2
    rw [← hE] at k4 q4
    rw [← hO] at k3 q3 hr1 hr2 hsz
    have HR1 := Lib.hid hr1
    have HR2 := Lib.hid hr2
    clear hP hS hE hO hr1 hr2
    have e1 : (P != P) = false := by simp
    have e2 : (S != S) = false := by simp
    have e3 : (E != E) = false := by simp
    have e4 : (0 : Int) ≤ K := by omega
    have e5 : (K : Int) < ts.length := by omega
    go_wp2_with fail
    go_quiet ((go_at_call 31; exact Calls.quiet_of (units_true _ _ _ _ _ O B _ rfl (HR1.out.drewN _) (HR2.out.drewN _) hsz)))
    go_wp2
    go_roundw
    case rel => exact ⟨K + 1, _, by omega, by go_num, by rw [HW.out, World.drewN_drewN]⟩
    case measure => simp [intOf]; omega
theorem same_own (n : Nat) (A A' : Option Addr) (c c' : Nat) (ts : List Tok) (xs xs' : List Value) (B : Nat) (w : World) (hn : n = ts.length) (hr : Rd w B A xs) (ht : Toks w B xs ts) (hr' : Rd w B A' xs') (ht' : Toks w B xs' ts) (hl : ts.length ≤ 1073741824) (hs : ∀ t ∈ ts, t.out.length ≤ 140737488355328) :
    Calls Try.prog 23 #[.slice A n c, .slice A' n c'] w fun e w' => e = .returned (.bool true) ∧ Below w.heap.size w w' :=
  (same_true n A A' c c' ts xs xs' B w hn hr ht hr' ht' hl hs).mono fun e w' ⟨h, m, hm⟩ => ⟨h, by rw [hm]; exact below_drewN' w m⟩
theorem all_row (n : Nat) (A : Option Addr) (cap : Nat) (zs : List Int) (w : World) (hn : n = zs.length) (hr : Rd w w.heap.size A (zs.map (Value.int .u8))) (hl : zs.length ≤ 8388608) (hc : zs.length ≤ cap) (hw : ∀ z ∈ zs, 0 ≤ z ∧ z ≤ 255) (ts : List Tok) (m : Nat) (ht : allF zs.length 0 zs = ts) (hm : ts.length = m) :
    Calls Try.prog 18 #[.slice A n cap] w fun e w' => ∃ A' c' xs, e = .returned (.slice A' m c') ∧ w'.ownsRow w.heap.size 41 4 (.slice A' m c') m xs ∧ Toks w' w'.heap.size xs ts ∧ m ≤ c' ∧ c' ≤ maxLen ∧ Below w.heap.size w w' := by
  subst hn ht hm
  refine (all_any A cap zs w hr hl hc hw).mono fun e w' h => ?_
  obtain ⟨v, xs, rfl, ho, ht, hb⟩ := h
  obtain ⟨A', c', rfl, h1, h2⟩ := own_form ho
  exact ⟨A', c', xs, rfl, ho, ht, h1, h2, hb⟩
end Go.Proofs.Ytbigbkplhlmbmaa
