/- Layer 2: the law's own Cut. -/
import Derived.Test.YtfhjphemeddjcaaCarryG
namespace Go.Proofs.Ytfhjphemeddjcaa
set_option linter.unusedVariables false
open Go.RowKit

/-- these cells are slices of bytes that lie below block B -/
def Parts (w : World) (B : Nat) : List Value → List (List Int) → Prop
  | [], [] => True
  | v :: xs, q :: qs => (∃ A c, v = .slice A q.length c ∧ q.length ≤ c ∧ Rd w B A (q.map (Value.int .u8))) ∧ Parts w B xs qs
  | _, _ => False
theorem Parts.keep {w w' : World} {B : Nat} (hk : ∀ b o, b < B → w'.cell? ⟨b, o, none⟩ = w.cell? ⟨b, o, none⟩) : ∀ {xs : List Value} {qs : List (List Int)}, Parts w B xs qs → Parts w' B xs qs
  | [], [], _ => trivial
  | v :: xs, q :: qs, ⟨⟨A, c, h1, h2, h4⟩, h5⟩ => ⟨⟨A, c, h1, h2, h4.keep (Nat.le_refl _) hk⟩, Parts.keep hk h5⟩
theorem Parts.length {w : World} {B : Nat} : ∀ {xs : List Value} {qs : List (List Int)}, Parts w B xs qs → xs.length = qs.length
  | [], [], _ => rfl
  | v :: xs, q :: qs, ⟨_, h⟩ => by simp only [List.length_cons, Parts.length h]
theorem Parts.snoc {w : World} {B : Nat} {q : List Int} {A : Option Addr} {c : Nat} (h2 : q.length ≤ c) (h4 : Rd w B A (q.map (Value.int .u8))) : ∀ {xs : List Value} {qs : List (List Int)}, Parts w B xs qs → Parts w B (xs ++ [.slice A q.length c]) (qs ++ [q])
  | [], [], _ => ⟨⟨A, c, rfl, h2, h4⟩, trivial⟩
  | v :: xs, p :: qs, ⟨h, g⟩ => ⟨h, Parts.snoc h2 h4 g⟩
theorem Parts.get {w : World} {B : Nat} : ∀ {xs : List Value} {qs : List (List Int)} (h : Parts w B xs qs) (k : Nat) (q : List Int), qs[k]? = some q → ∃ A c, xs[k]? = some (.slice A q.length c) ∧ q.length ≤ c ∧ Rd w B A (q.map (Value.int .u8))
  | [], [], _, k, q, h => by simp at h
  | v :: xs, p :: qs, ⟨⟨A, c, h1, h2⟩, g⟩, 0, q, h => by
    obtain rfl : p = q := by simpa using h
    subst h1
    exact ⟨A, c, rfl, h2⟩
  | v :: xs, p :: qs, ⟨_, g⟩, k + 1, q, h => by
    obtain ⟨A, c, h1, h2⟩ := Parts.get g k q (by simpa using h)
    exact ⟨A, c, by simpa using h1, h2⟩

theorem info23 : (Try.prog.info? 23).map (fun i => (i.zero, i.size, i.bytes)) = some (some (.slice none 0 0), 1, 24) := by kernel_rfl

set_option maxHeartbeats 1600000 in
theorem cut_any (A : Option Addr) (n cap : Nat) (zs : List Int) (A' : Option Addr) (n' cap' : Nat) (cs : List Int) (B : Nat) (w : World) (hn : n = zs.length) (hn' : n' = cs.length) (hB : B ≤ w.heap.size)
    (hr : Rd w B A (zs.map (Value.int .u8))) (hc : zs.length ≤ cap) (hl : zs.length ≤ 8388608)
    (hr' : Rd w w.heap.size A' (cs.map (Value.int .u8))) (hc' : cs.length ≤ cap') (hb' : ∀ z ∈ cs, 0 ≤ z ∧ z ≤ 255) (hl' : cs.length ≤ 1048576) :
    Calls Try.prog 20 #[.slice A n cap, .slice A' n' cap'] w fun e w' => ∃ A2 c2 xs qs, e = .returned (.slice A2 (cs.length + 1) c2) ∧ w'.ownsRow w.heap.size 23 1 (.slice A2 (cs.length + 1) c2) (cs.length + 1) xs ∧ Parts w' B xs qs ∧ qs.flatten = zs ∧ qs.length = cs.length + 1 ∧ Below w.heap.size w w' := by
  subst hn hn'
  obtain ⟨i0, hi, hz0, hz1, hz2⟩ := info_parts info23
  have HR := Lib.hid hr
  have HR' := Lib.hid hr'
  have HB' := Lib.hid hb'
  clear hr hr' hb'
  go_enter Try.func20, Try.ntmps20
  go_wp2
  go_loopw [0, 5, 11] (fun b v i wr => ∃ (K c : Nat) (A0 : Option Addr) (rest : List Int) (qs : List (List Int)) (xs : List Value), K ≤ cs.length ∧ i = .int .i64 K ∧ b = .slice A0 rest.length c ∧ rest.length ≤ c ∧ rest.length ≤ 8388608 ∧ Rd w B A0 (rest.map (Value.int .u8)) ∧ qs.flatten ++ rest = zs ∧ qs.length = K ∧
      wr.ownsRow w.heap.size 23 1 v K xs ∧ Parts w B xs qs ∧ Below w.heap.size w wr) (fun _ _ i _ => cs.length - (intOf i).toNat)
  case atStart => exact ⟨0, cap, A, zs, [], [], by omega, rfl, rfl, hc, hl, HR.out, rfl, rfl, World.ownsRow_nil _ _ _ _, trivial, Below.refl _ _⟩
  case round =>
    obtain ⟨K, c, A0, rest, qs, xs, hK, rfl, rfl, hrc, hrl, hrr, hfl, hql, hown, hparts, hbr⟩ := hrel
    have HRR := Lib.hid hrr
    have HFL := Lib.hid hfl
    have HQL := Lib.hid hql
    have HOW := Lib.hid hown
    have HPA := Lib.hid hparts
    clear hrr hfl hql hown hparts
    by_cases hKc : K = cs.length
    · have hKc' : ¬ K < cs.length := by omega
      go_wp2_with (at_builtin; refine wpList_app _ rfl _ _ 26 rfl w.heap.size 23 i0 _ 1 24 Try.underlying26 hi hz0 hz1 hz2 rfl (by decide) _ _ xs rfl (HOW.out.alloc _) (wr.heap.size + 1) _ 1 1 [.slice A0 rest.length c] rfl rfl ?c1 ?c2 ?c3 ?c4 ?c5 ?_)
      case c1 => exact Rd_new' _ _ _ _ rfl
      case c2 => intro u hu; simp at hu; subst hu; rfl
      case c3 => simp only [maxLen]; omega
      case c4 => omega
      case c5 => have := hbr.size; simp; omega
      intro v5 w5 hown5 hg5
      have hb5 := below_own (hbr.alloc hbr.size _) hg5 (HOW.out.alloc _) (Nat.le_refl _) (by have := hbr.size; simp; omega)
      have hpn := HPA.out.snoc (q := rest) (A := A0) (c := c) hrc HRR.out
      obtain ⟨A2, c2, rfl, hc2, hm2⟩ := own_form hown5
      have HO5 := Lib.hid hown5
      have HPN := Lib.hid (hpn.keep (w' := w5) fun b o hb => hb5.cell (p := ⟨b, o, none⟩) (Nat.lt_of_lt_of_le hb hB))
      have HB5 := Lib.hid hb5
      have HKC := Lib.hid hKc
      clear hown5 hpn hb5 hg5 hKc
      go_wp2
      go_ret
      exact ⟨A2, c2, _, qs ++ [rest], rfl, HO5.out, HPN.out, by rw [← HFL.out]; simp, by rw [List.length_append, HQL.out, HKC.out]; rfl, HB5.out⟩
    have hKc' : K < cs.length := by omega
    obtain ⟨b, o, rfl, hbl, hcell⟩ := rd_ints (HR'.out.below hbr hbr.size) (by omega)
    have k1 := hcell K hKc'
    have hcb := getD_range (lo := 0) (hi := 255) HB'.out K hKc'
    obtain ⟨x, hx⟩ : ∃ x, x = cs.getD K 0 := ⟨_, rfl⟩
    rw [← hx] at k1 hcb
    have e4 : (0 : Int) ≤ K := by omega
    have e5 : (K : Int) < cs.length := by omega
    obtain ⟨X, hX⟩ : ∃ X : Nat, x % 16 = X := ⟨(x % 16).toNat, by omega⟩
    clear hcell hx hKc
    obtain ⟨m, hm⟩ : ∃ m : Nat, m = min X rest.length := ⟨_, rfl⟩
    have hml : m ≤ rest.length := by omega
    have hcase : ¬ rest.length < X ∧ m = X ∨ rest.length < X ∧ m = rest.length := by omega
    have hpart : (rest.take m).length = m := by rw [List.length_take]; omega
    have HPL := Lib.hid hpart
    clear hm hpart
    rcases hcase with ⟨h1, rfl⟩ | ⟨h1, rfl⟩
    · go_wp2_with (at_builtin; refine wpList_app _ rfl _ _ 26 rfl w.heap.size 23 i0 _ 1 24 Try.underlying26 hi hz0 hz1 hz2 rfl (by decide) _ _ xs rfl (HOW.out.alloc _) (wr.heap.size + 1) _ 1 1 [.slice A0 m c] rfl rfl ?c1 ?c2 ?c3 ?c4 ?c5 ?_)
      case c1 => exact Rd_new' _ _ _ _ rfl
      case c2 => intro u hu; simp at hu; subst hu; rfl
      case c3 => simp only [maxLen]; omega
      case c4 => omega
      case c5 => have := hbr.size; simp; omega
      intro v5 w5 hown5 hg5
      have hb5 := below_own (hbr.alloc hbr.size _) hg5 (HOW.out.alloc _) (Nat.le_refl _) (by have := hbr.size; simp; omega)
      have HO5 := Lib.hid hown5
      have HB5 := Lib.hid hb5
      have hrd := HRR.out.drop (k := m) (cap := c) (n := rest.length) (by simp) (by omega) hrc
      rw [← List.map_drop] at hrd
      have hrt := HRR.out.take m
      rw [← List.map_take] at hrt
      have hpn := HPA.out.snoc (q := rest.take m) (A := A0) (c := c) (by rw [HPL.out]; omega) hrt
      rw [HPL.out] at hpn
      have HPN := Lib.hid hpn
      have HFN := Lib.hid (show (qs ++ [rest.take m]).flatten ++ rest.drop m = zs by rw [← HFL.out]; simp)
      have HQN := Lib.hid (show (qs ++ [rest.take m]).length = K + 1 by rw [List.length_append, HQL.out]; rfl)
      clear hown5 hg5 hb5 hrt hpn
      by_cases hcap : c = m
      · rw [if_pos hcap] at hrd
        have HRN := Lib.hid hrd
        clear hrd
        go_wp2
        exact ⟨⟨K + 1, 0, A0, rest.drop m, qs ++ [rest.take m], _, by omega, by go_num, by rw [List.length_drop], by rw [List.length_drop]; omega, by rw [List.length_drop]; omega, HRN.out, HFN.out, HQN.out, HO5.out, HPN.out, HB5.out⟩, by simp [intOf]; omega⟩
      · rw [if_neg hcap] at hrd
        have HRN := Lib.hid hrd
        clear hrd
        go_wp2
        exact ⟨⟨K + 1, c - m, _, rest.drop m, qs ++ [rest.take m], _, by omega, by go_num, by rw [List.length_drop], by rw [List.length_drop]; omega, by rw [List.length_drop]; omega, HRN.out, HFN.out, HQN.out, HO5.out, HPN.out, HB5.out⟩, by simp [intOf]; omega⟩
    · go_wp2_with (at_builtin; refine wpList_app _ rfl _ _ 26 rfl w.heap.size 23 i0 _ 1 24 Try.underlying26 hi hz0 hz1 hz2 rfl (by decide) _ _ xs rfl (HOW.out.alloc _) (wr.heap.size + 1) _ 1 1 [.slice A0 rest.length c] rfl rfl ?c1 ?c2 ?c3 ?c4 ?c5 ?_)
      case c1 => exact Rd_new' _ _ _ _ rfl
      case c2 => intro u hu; simp at hu; subst hu; rfl
      case c3 => simp only [maxLen]; omega
      case c4 => omega
      case c5 => have := hbr.size; simp; omega
      intro v5 w5 hown5 hg5
      have hb5 := below_own (hbr.alloc hbr.size _) hg5 (HOW.out.alloc _) (Nat.le_refl _) (by have := hbr.size; simp; omega)
      have HO5 := Lib.hid hown5
      have HB5 := Lib.hid hb5
      have hrd := HRR.out.drop (k := rest.length) (cap := c) (n := rest.length) (by simp) (by omega) hrc
      rw [← List.map_drop] at hrd
      have hrt := HRR.out.take rest.length
      rw [← List.map_take] at hrt
      have hpn := HPA.out.snoc (q := rest.take rest.length) (A := A0) (c := c) (by rw [HPL.out]; omega) hrt
      rw [HPL.out] at hpn
      have HPN := Lib.hid hpn
      have HFN := Lib.hid (show (qs ++ [rest.take rest.length]).flatten ++ rest.drop rest.length = zs by rw [← HFL.out]; simp)
      have HQN := Lib.hid (show (qs ++ [rest.take rest.length]).length = K + 1 by rw [List.length_append, HQL.out]; rfl)
      clear hown5 hg5 hb5 hrt hpn
      by_cases hcap : c = rest.length
      · rw [if_pos hcap] at hrd
        have HRN := Lib.hid hrd
        clear hrd
        go_wp2
        exact ⟨⟨K + 1, 0, A0, rest.drop rest.length, qs ++ [rest.take rest.length], _, by omega, by go_num, by rw [List.length_drop, Nat.sub_self], by rw [List.length_drop]; omega, by rw [List.length_drop]; omega, HRN.out, HFN.out, HQN.out, HO5.out, HPN.out, HB5.out⟩, by simp [intOf]; omega⟩
      · rw [if_neg hcap] at hrd
        have HRN := Lib.hid hrd
        clear hrd
        go_wp2
        exact ⟨⟨K + 1, c - rest.length, _, rest.drop rest.length, qs ++ [rest.take rest.length], _, by omega, by go_num, by rw [List.length_drop, Nat.sub_self], by rw [List.length_drop]; omega, by rw [List.length_drop]; omega, HRN.out, HFN.out, HQN.out, HO5.out, HPN.out, HB5.out⟩, by simp [intOf]; omega⟩
end Go.Proofs.Ytfhjphemeddjcaa
