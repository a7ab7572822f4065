/- TcvnEncode: the walk. -/
import Derived.Test.YtojcmmjcafbngaaDoorTcE
import Derived.Test.YtojcmmjcafbngaaDoorTcS
import Derived.Test.YtojcmmjcafbngaaDoorVietN
namespace Go.Proofs.YtojcmmjcafbngaaDoor
set_option linter.unusedVariables false
set_option linter.unusedSimpArgs false
set_option linter.unnecessarySimpa false
open Go.RowKit
/-- what the law's loop has found among the first K bytes -/
def FI (x : Int) (K : Nat) (a : Int) (b : Bool) : Prop := (b = false ∧ a = 0 ∧ ∀ k, k < K → tcK k = true → tcD k ≠ x) ∨ (b = true ∧ ∃ j, j < K ∧ a = (j : Int) ∧ tcK j = true ∧ tcD j = x)
theorem FI.zero (x : Int) : FI x 0 0 false := .inl ⟨rfl, rfl, fun k h => absurd h (by omega)⟩
theorem FI.hit {x : Int} {K : Nat} (hk : tcK K = true) (h : tcD K = x) : FI x (K + 1) (K : Int) true := .inr ⟨rfl, K, by omega, rfl, hk, h⟩
theorem FI.miss {x : Int} {K : Nat} {a : Int} {b : Bool} (h : ¬ (tcK K = true ∧ tcD K = x)) (hf : FI x K a b) : FI x (K + 1) a b := by
  rcases hf with ⟨h1, h2, h3⟩ | ⟨h1, j, h2, h3, h4⟩
  · refine .inl ⟨h1, h2, fun k hk hkk => ?_⟩
    rcases Nat.lt_or_ge k K with hl | hl
    · exact h3 k hl hkk
    · obtain rfl : k = K := by omega
      exact fun e => h ⟨hkk, e⟩
  · exact .inr ⟨h1, j, by omega, h3, h4⟩
theorem FI.all {x : Int} {a : Int} {b : Bool} (h : FI x 256 a b) : tcC x = a ∧ (tcE x).isSome = b := by
  rcases h with ⟨h1, h2, h3⟩ | ⟨h1, j, h2, h3, h4, h5⟩
  · have := tcE_none h3
    unfold tcC
    rw [this, h1, h2]; exact ⟨rfl, rfl⟩
  · have := tcE_some h2 h4 h5
    unfold tcC
    rw [this, h1, h3]; exact ⟨rfl, rfl⟩

set_option maxRecDepth 100000 in
set_option maxHeartbeats 3200000 in
theorem tcvnEncode_any (s n : Int) (w : World) (hn : 0 ≤ n ∧ n ≤ 65535) (hh : TcAt w) :
    Calls Tryd.prog 4 #[.int .i64 s, .int .u16 n] w fun e w' => e = .returned (.bool true) ∧ Below w.heap.size w w' := by
  have A0 := Lib.hid (awake12_any w hh)
  have HH := Lib.hid hh
  obtain ⟨a, ha⟩ : ∃ a, n % 544 = a := ⟨_, rfl⟩
  obtain ⟨c, hc⟩ : ∃ a, n % 112 = a := ⟨_, rfl⟩
  have a0 : 0 ≤ a := by omega
  have a1 : a < 544 := by omega
  have c0 : 0 ≤ c := by omega
  have c1 : c < 112 := by omega
  have hw : IntKind.i64.wrap (7824 + c) = 7824 + c := by rw [IntKind.wrap_i64]; omega
  clear hh
  go_enter Tryd.func4, Tryd.ntmps4
  go_wp2_with fail
  refine A0.out.mono ?_
  rintro e w1 ⟨rfl, hb1⟩
  have HH1 := Lib.hid (HH.out.below hb1)
  have hs1 := hb1.size
  have HB1 := Lib.hid hb1
  clear hb1
  go_wp2_with fail
  obtain ⟨d, hd⟩ : ∃ d, 7824 + c = d := ⟨_, rfl⟩
  rw [hd]
  have q := Held.new w1 #[.int .i64 s, .int .i64 a, .int .i64 d] 3
  have hb2 := HB1.out.alloc hs1 (.cells #[.int .i64 s, .int .i64 a, .int .i64 d] 3)
  have hH2 := HH1.out.below ((Below.refl _ w1).alloc (Nat.le_refl _) (.cells #[.int .i64 s, .int .i64 a, .int .i64 d] 3))
  obtain ⟨W2, hW2⟩ : ∃ W2, w1.alloc (.cells #[.int .i64 s, .int .i64 a, .int .i64 d] 3) = W2 := ⟨_, rfl⟩
  obtain ⟨g, hg⟩ : ∃ g, w1.heap.size = g := ⟨_, rfl⟩
  rw [hW2] at q hb2 hH2 ⊢
  rw [hg] at q ⊢
  have HQ := Lib.hid q
  have HB2 := Lib.hid hb2
  have HH2 := Lib.hid hH2
  have hcell : ∀ k, k < 3 → ∃ x, (#[Value.int .i64 s, .int .i64 a, .int .i64 d])[k]? = some (.int .i64 x) := by
    intro k hk
    match k, hk with
    | 0, _ => exact ⟨s, rfl⟩
    | 1, _ => exact ⟨a, rfl⟩
    | 2, _ => exact ⟨d, rfl⟩
  have HC := Lib.hid hcell
  clear hW2 hg q hb2 hH2 hs1 HH1 HB1 hcell hw hd ha hc A0 HH
  go_loopw [26] (fun i wr => ∃ I : Nat, I ≤ 3 ∧ i = .int .i64 I ∧ Hid (Held wr g #[.int .i64 s, .int .i64 a, .int .i64 d] 3) ∧ Hid (TcAt wr) ∧ Hid (Below w.heap.size w wr)) (fun i _ => 3 - (intOf i).toNat)
  case atStart => exact ⟨0, by omega, rfl, HQ, HH2, HB2⟩
  case round =>
    clear HQ HH2 HB2
    obtain ⟨I, hI, rfl, HQ, HH, HB⟩ := hrel
    by_cases hI3 : I = 3
    · subst hI3
      go_wp2_with fail
      go_ret
      exact ⟨rfl, HB.out⟩
    have hI' : I < 3 := by omega
    have hIi : (I : Int) < 3 := by omega
    have hIi0 : (0 : Int) ≤ I := by omega
    obtain ⟨x, hx⟩ := HC.out I hI'
    have cx := (HQ.out.cell I).trans hx
    clear hx hI3
    obtain ⟨wo, rfl⟩ : ∃ wo : World, wo = wr := ⟨_, rfl⟩
    go_wp2_with fail
    go_loopw [7, 8, 9] (fun c7 c8 i wi => ∃ (K : Nat) (p : Int) (b : Bool), K ≤ 256 ∧ i = .int .i64 K ∧ c7 = .int .u8 p ∧ c8 = .bool b ∧ Hid (FI x K p b) ∧ Hid (Held wi g #[.int .i64 s, .int .i64 a, .int .i64 d] 3) ∧ Hid (TcAt wi) ∧ Hid (Below w.heap.size w wi)) (fun _ _ i _ => 256 - (intOf i).toNat)
    case atStart => exact ⟨0, 0, false, by omega, rfl, rfl, rfl, FI.zero x, HQ, HH, HB⟩
    case round =>
      clear HQ HH HB cx
      obtain ⟨K, p, b, hK, rfl, rfl, rfl, hF, HQ, HH, HB⟩ := hrel
      by_cases hK6 : K = 256
      · subst hK6
        obtain ⟨e1, e2⟩ := hF.out.all
        have E1 := Lib.hid (tenc_any x wr HH.out)
        rw [e1, e2] at E1
        clear e1 e2 hF
        go_wp2_with fail
        refine E1.out.mono ?_
        rintro e w' ⟨rfl, rfl⟩
        go_wp2_with fail
        go_roundw
        case rel => exact ⟨I + 1, by omega, by go_num, HQ, HH, HB⟩
        case measure => simp [intOf]; omega
      have hK' : K < 256 := by omega
      have k3 : (0 : Int) ≤ K := by omega
      have k4 : (K : Int) < 256 := by omega
      have k5 : IntKind.u8.wrap (K : Int) = K := by rw [IntKind.wrap_u8]; omega
      have k6 : (K : Int) % 256 = K := by omega
      have L1 := Lib.hid (lscal_any K wr hK')
      by_cases hd : tcK K = true ∧ tcD K = x
      · have hN := Lib.hid (FI.hit hd.1 hd.2)
        have hb : (tcD K == x) = true := by simpa using hd.2
        obtain ⟨dk, hdk⟩ : ∃ d, tcD K = d := ⟨_, rfl⟩
        rw [hdk, hd.1] at L1
        rw [hdk] at hb
        clear hd hdk hF
        go_wp2_with fail
        refine L1.out.mono ?_
        rintro e w3 ⟨rfl, hb3⟩
        have HQ3 := Lib.hid (HQ.out.below hb3 HQ.out.lt)
        have HH3 := Lib.hid (HH.out.below hb3)
        have HB3 := Lib.hid (HB.out.trans (hb3.mono HB.out.size))
        clear hb3 HQ HH HB L1
        go_wp2_with fail
        go_roundw
        case rel => exact ⟨K + 1, (K : Int), true, by omega, by go_num, rfl, rfl, hN, HQ3, HH3, HB3⟩
        case measure => simp [intOf]; omega
      · have hN := Lib.hid (FI.miss hd hF.out)
        cases hkk : tcK K with
        | true =>
          have hb : (tcD K == x) = false := by
            have : tcD K ≠ x := fun e => hd ⟨hkk, e⟩
            simpa using this
          obtain ⟨dk, hdk⟩ : ∃ d, tcD K = d := ⟨_, rfl⟩
          rw [hdk, hkk] at L1
          rw [hdk] at hb
          clear hd hdk hF hkk
          go_wp2_with fail
          refine L1.out.mono ?_
          rintro e w3 ⟨rfl, hb3⟩
          have HQ3 := Lib.hid (HQ.out.below hb3 HQ.out.lt)
          have HH3 := Lib.hid (HH.out.below hb3)
          have HB3 := Lib.hid (HB.out.trans (hb3.mono HB.out.size))
          clear hb3 HQ HH HB L1
          go_wp2_with fail
          go_roundw
          case rel => exact ⟨K + 1, p, b, by omega, by go_num, rfl, rfl, hN, HQ3, HH3, HB3⟩
          case measure => simp [intOf]; omega
        | false =>
          obtain ⟨dk, hdk⟩ : ∃ d, tcD K = d := ⟨_, rfl⟩
          rw [hdk, hkk] at L1
          clear hd hdk hF hkk
          go_wp2_with fail
          refine L1.out.mono ?_
          rintro e w3 ⟨rfl, hb3⟩
          have HQ3 := Lib.hid (HQ.out.below hb3 HQ.out.lt)
          have HH3 := Lib.hid (HH.out.below hb3)
          have HB3 := Lib.hid (HB.out.trans (hb3.mono HB.out.size))
          clear hb3 HQ HH HB L1
          go_wp2_with fail
          go_roundw
          case rel => exact ⟨K + 1, p, b, by omega, by go_num, rfl, rfl, hN, HQ3, HH3, HB3⟩
          case measure => simp [intOf]; omega
end Go.Proofs.YtojcmmjcafbngaaDoor
