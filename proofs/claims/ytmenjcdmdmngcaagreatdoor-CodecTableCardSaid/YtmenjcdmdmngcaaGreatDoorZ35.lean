/- Texts of this seat, one behind the other: CdX, CdN, CdVt. -/
import Derived.Test.YtmenjcdmdmngcaaGreatDoorZ32
import Derived.Test.YtmenjcdmdmngcaaGreatDoorZ3
import Derived.Handy
import Derived.Test.YtmenjcdmdmngcaaGreatDoorZ34
namespace Go.Proofs.YtmenjcdmdmngcaaGreatDoor
set_option linter.unusedVariables false
set_option linter.unusedSimpArgs false
set_option linter.unnecessarySimpa false
open Go.RowKit
theorem Us.belowU {X : Nat → Prop} {w w' : World} {v : Value} {us : List Int} (h : Us X w v us) (hb : Below w.heap.size w w') : Us (fun b => X b ∧ b < w.heap.size) w' v us := h.step hb.size fun b hl hx => ⟨⟨hx, hl⟩, hb.block b hl⟩
theorem Us.toY {X Y : Nat → Prop} {w : World} {v : Value} {us : List Int} (h : Us X w v us) (hY : ∀ b, X b → Y b) : Us Y w v us := h.step (Nat.le_refl _) fun b _ hx => ⟨hY b hx, rfl⟩
theorem Us.ri {X : Nat → Prop} {w : World} {A : Option Addr} {n c : Nat} {us : List Int} (h : Us X w (.slice A n c) us) : RI w A us := by
  obtain ⟨A', c', e, h1, h2, h3⟩ := h
  injection e with e1 e2 e3
  subst e1
  exact h3.rd (Nat.le_refl _)
theorem Us.cap {X : Nat → Prop} {w : World} {A : Option Addr} {n c : Nat} {us : List Int} (h : Us X w (.slice A n c) us) : n = us.length ∧ n ≤ c ∧ c ≤ maxLen := by
  obtain ⟨A', c', e, h1, h2, h3⟩ := h
  injection e with e1 e2 e3
  subst e2 e3
  exact ⟨rfl, h1, h2⟩
theorem MidR.wide {S L S' L' : Nat} {w w' : World} (h : MidR S L w w') (hS : S' ≤ S) (hL : L ≤ L') : MidR S' L' w w' := ⟨h.os, h.tape, h.output, h.size, fun k hk hr => h.block k hk (by omega)⟩
theorem MidR.cell {S L : Nat} {w w' : World} {g o : Nat} {v : Value} (h : MidR S L w w') (hc : w.cell? ⟨g, o, none⟩ = some v) (hr : g < S ∨ L ≤ g) : w'.cell? ⟨g, o, none⟩ = some v := by
  rcases Nat.lt_or_ge g w.heap.size with hl | hl
  · rw [← hc]; unfold World.cell?; rw [h.block g hl hr]
  · simp [World.cell?, Array.getElem?_eq_none hl] at hc
theorem MidR.belowS {S L : Nat} {w w' : World} (h : MidR S L w w') (hS : L ≤ S) : Below w.heap.size w w' := ⟨h.os, h.tape, h.output, h.size, fun k hk => h.block k hk (by omega)⟩
theorem us_rd {X : Nat → Prop} {w : World} {A : Option Addr} {n c : Nat} {us : List Int} (h : Us X w (.slice A n c) us) : Rd w w.heap.size A (us.map (Value.int .i64)) := h.ri
/-- a machine is none of nil -/
theorem dnil {I : CodApi} {k S L : Nat} {w : World} {V : Value} (h : I.D k S L w V) : IsM V := (I.dfoot h).2.2
theorem enil {I : CodApi} {k S L : Nat} {w : World} {V : Value} (h : I.E k S L w V) : IsM V := (I.efoot h).2.2
/-- a name's cell, by a byte -/
theorem byte8 (z : Int) (h0 : 0 ≤ z) (h1 : z ≤ 255) : ∃ k : Nat, z % 8 = (k : Int) ∧ k < 8 := ⟨(z % 8).toNat, by omega, by omega⟩
end Go.Proofs.YtmenjcdmdmngcaaGreatDoor
namespace Go.Proofs.YtmenjcdmdmngcaaGreatDoor
set_option linter.unusedVariables false
set_option linter.unusedSimpArgs false
set_option linter.unnecessarySimpa false
open Go.RowKit
/-- the other names, and what they mean -/
def alB (j : Nat) : ByteArray := ([⟨#[117, 116, 102, 56]⟩, ⟨#[117, 115, 45, 97, 115, 99, 105, 105]⟩, ⟨#[118, 105, 115, 99, 105, 105, 49, 46, 49, 45, 49]⟩, ⟨#[116, 99, 118, 110]⟩, ⟨#[97, 98, 99]⟩, ⟨#[118, 110, 105, 45, 119, 105, 110]⟩, ⟨#[116, 105, 115, 54, 50, 48]⟩, ⟨#[105, 115, 111, 45, 56, 56, 53, 57, 45, 49, 49]⟩, ⟨#[105, 115, 99, 105, 105, 45, 57, 49]⟩] : List ByteArray).getD j ⟨#[]⟩
def alT (j : Nat) : ByteArray := nmB (([0, 1, 2, 3, 3, 4, 5, 5, 7] : List Nat).getD j 0)
def alC : Array Value := #[.string (alB 0), .string (alT 0), .string (alB 1), .string (alT 1), .string (alB 2), .string (alT 2), .string (alB 3), .string (alT 3), .string (alB 4), .string (alT 4), .string (alB 5), .string (alT 5), .string (alB 6), .string (alT 6), .string (alB 7), .string (alT 7), .string (alB 8), .string (alT 8)]
/-- the first of n that has p -/
def firstN (p : Nat → Bool) (n : Nat) : Option Nat := (List.range n).find? p
theorem firstN_no {p : Nat → Bool} {n : Nat} (h : ∀ j, j < n → p j = false) : firstN p n = none := by
  unfold firstN; rw [List.find?_eq_none]; intro x hx; rw [h x (List.mem_range.1 hx)]; simp
theorem firstN_yes {p : Nat → Bool} {n K : Nat} (h : ∀ j, j < K → p j = false) (hK : K < n) (hp : p K = true) : firstN p n = some K := by
  unfold firstN
  obtain ⟨d, rfl⟩ : ∃ d, n = K + (d + 1) := ⟨n - K - 1, by omega⟩
  rw [List.range_add, List.find?_append]
  have h1 : (List.range K).find? p = none := by rw [List.find?_eq_none]; intro x hx; rw [h x (List.mem_range.1 hx)]; simp
  rw [h1, List.range_succ_eq_map]
  simp [hp]
def wantF (s : ByteArray) : ByteArray := match firstN (fun j => (nmB j).toList == s.toList) 8 with
  | some j => nmB j
  | none => match firstN (fun j => (alB j).toList == s.toList) 9 with
    | some j => alT j
    | none => ⟨#[]⟩
/-- none of the first K -/
def NoneN (p : Nat → Bool) (K : Nat) : Prop := ∀ j, j < K → p j = false
theorem NoneN.next {p : Nat → Bool} {K : Nat} (h : NoneN p K) (hp : p K = false) : NoneN p (K + 1) := fun j hj => by
  rcases Nat.lt_or_ge j K with hh | hh
  · exact h j hh
  · obtain rfl : j = K := by omega
    exact hp
theorem al_cell (w : World) (j : Nat) (h : j < 9) : (w.alloc (.cells alC 67)).cell? ⟨w.heap.size, j * 2, none⟩ = some (.string (alB j)) ∧ (w.alloc (.cells alC 67)).cell? ⟨w.heap.size, j * 2 + 1, none⟩ = some (.string (alT j)) := by
  rw [(Held.new w alC 67).cell, (Held.new w alC 67).cell]
  match j, h with
  | 0, _ => exact ⟨rfl, rfl⟩
  | 1, _ => exact ⟨rfl, rfl⟩
  | 2, _ => exact ⟨rfl, rfl⟩
  | 3, _ => exact ⟨rfl, rfl⟩
  | 4, _ => exact ⟨rfl, rfl⟩
  | 5, _ => exact ⟨rfl, rfl⟩
  | 6, _ => exact ⟨rfl, rfl⟩
  | 7, _ => exact ⟨rfl, rfl⟩
  | 8, _ => exact ⟨rfl, rfl⟩
set_option maxRecDepth 100000 in
set_option maxHeartbeats 6400000 in
theorem lname_any (s : ByteArray) (w : World) (v : ByteArray) (hv : wantF s = v) : Calls Tryz.prog 13 #[.string s] w fun e w' => e = .returned (.string v) ∧ Below w.heap.size w w' := by
  have HV := Lib.hid hv
  clear hv
  go_enter Tryz.func13, Tryz.ntmps13
  have hb1 := below_allocC w (.cells nmC 9)
  have hcn := fun j h => names_cell w j h
  obtain ⟨W1, hW1⟩ : ∃ W, w.alloc (.cells nmC 9) = W := ⟨_, rfl⟩
  rw [hW1] at hb1 hcn
  have hg1 : w.heap.size < W1.heap.size := by rw [← hW1]; simp
  have HC1 := Lib.hid hcn
  have HB1 := Lib.hid hb1
  have HW1 := Lib.hid hW1
  have HB0 : Hid (Below W1.heap.size W1 W1) := Lib.hid (Below.refl _ _)
  have HN0 : Hid (NoneN (fun j => (nmB j).toList == s.toList) 0) := Lib.hid (fun j hj => by omega)
  clear hb1 hcn hW1
  go_wp2_with (go_at_call 11; refine (names_any w).mono ?_; rintro e wq ⟨rfl, rfl⟩)
  rw [HW1.out]
  clear HW1
  go_loopw [9] (fun i wr => ∃ K : Nat, K ≤ 8 ∧ i = .int .i64 K ∧ Hid (NoneN (fun j => (nmB j).toList == s.toList) K) ∧ Hid (Below W1.heap.size W1 wr)) (fun i _ => 8 - (intOf i).toNat)
  case atStart => exact ⟨0, by omega, rfl, HN0, HB0⟩
  case round =>
    clear HN0 HB0
    obtain ⟨K, hK, rfl, hnone, hb⟩ := hrel
    obtain ⟨wa, rfl⟩ : ∃ wa : World, wa = wr := ⟨_, rfl⟩
    have hbs := hb.out.size
    by_cases hKq : K = 8
    · have hKl : ¬ K < 8 := by omega
      have HNO := Lib.hid (firstN_no (show ∀ j, j < 8 → _ from by rw [← hKq]; exact hnone.out))
      have hb2 := below_allocC wa (.cells alC 67)
      have hca := fun j h => al_cell wa j h
      obtain ⟨W2, hW2⟩ : ∃ W, wa.alloc (.cells alC 67) = W := ⟨_, rfl⟩
      have hg2 : wa.heap.size < W2.heap.size := by rw [← hW2]; simp
      rw [hW2] at hb2 hca
      have HC2 := Lib.hid hca
      have HB2 := Lib.hid (HB1.out.trans ((hb.out.trans (hb2.mono hbs)).mono HB1.out.size))
      have HW2 := Lib.hid hW2
      have HB0 : Hid (Below W2.heap.size W2 W2) := Lib.hid (Below.refl _ _)
      have HN0 : Hid (NoneN (fun j => (alB j).toList == s.toList) 0) := Lib.hid (fun j hj => by omega)
      clear hb2 hca hW2 hKq hnone hb
      go_wp2_with fail
      rw [show wa.alloc (.cells #[.string ⟨#[117, 116, 102, 56]⟩, .string ⟨#[117, 116, 102, 45, 56]⟩, .string ⟨#[117, 115, 45, 97, 115, 99, 105, 105]⟩, .string ⟨#[97, 115, 99, 105, 105]⟩, .string ⟨#[118, 105, 115, 99, 105, 105, 49, 46, 49, 45, 49]⟩, .string ⟨#[118, 105, 115, 99, 105, 105]⟩, .string ⟨#[116, 99, 118, 110]⟩, .string ⟨#[116, 99, 118, 110, 51]⟩, .string ⟨#[97, 98, 99]⟩, .string ⟨#[116, 99, 118, 110, 51]⟩, .string ⟨#[118, 110, 105, 45, 119, 105, 110]⟩, .string ⟨#[118, 110, 105]⟩, .string ⟨#[116, 105, 115, 54, 50, 48]⟩, .string ⟨#[116, 105, 115, 45, 54, 50, 48]⟩, .string ⟨#[105, 115, 111, 45, 56, 56, 53, 57, 45, 49, 49]⟩, .string ⟨#[116, 105, 115, 45, 54, 50, 48]⟩, .string ⟨#[105, 115, 99, 105, 105, 45, 57, 49]⟩, .string ⟨#[105, 115, 99, 105, 105]⟩] 67) = W2 from HW2.out]
      clear HW2
      go_loopw [29] (fun i wr => ∃ J : Nat, J ≤ 9 ∧ i = .int .i64 J ∧ Hid (NoneN (fun j => (alB j).toList == s.toList) J) ∧ Hid (Below W2.heap.size W2 wr)) (fun i _ => 9 - (intOf i).toNat)
      case atStart => exact ⟨0, by omega, rfl, HN0, HB0⟩
      case round =>
        clear HN0 HB0
        obtain ⟨J, hJ, rfl, hnone, hb⟩ := hrel
        obtain ⟨wc, rfl⟩ : ∃ wc : World, wc = wr := ⟨_, rfl⟩
        have hbs := hb.out.size
        have HBw := Lib.hid (HB2.out.trans (hb.out.mono HB2.out.size))
        by_cases hJq : J = 9
        · have hJl : ¬ J < 9 := by omega
          have hv : (⟨#[]⟩ : ByteArray) = v := by
            rw [← HV.out]; unfold wantF; rw [HNO.out, firstN_no (show ∀ j, j < 9 → _ from by rw [← hJq]; exact hnone.out)]
          have HV2 := Lib.hid hv
          clear hJq hv
          go_wp2_with fail
          go_ret
          exact ⟨ret_str HV2.out.symm, HBw.out⟩
        have hJl : J < 9 := by omega
        have i3 : (0 : Int) ≤ (J : Int) := by omega
        have i4 : (J : Int) < 9 := by omega
        have hx := (hb.out.cell (p := ⟨wa.heap.size, J * 2, none⟩) hg2).trans (HC2.out J hJl).1
        have hy := (hb.out.cell (p := ⟨wa.heap.size, J * 2 + 1, none⟩) hg2).trans (HC2.out J hJl).2
        have hbn := below_allocC wc (.cells #[.string (alB J), .string (alT J)] 67)
        have HBn := Lib.hid (hb.out.trans (hbn.mono hbs))
        have HBw' := Lib.hid (HBw.out.trans (hbn.mono HBw.out.size))
        cases hbq : ((alB J).toList == s.toList)
        · have HNX := Lib.hid (hnone.out.next hbq)
          clear hJq hbn
          go_wp2_with fail
          go_roundw
          case rel => exact ⟨J + 1, by omega, by go_num, HNX, HBn⟩
          case measure => simp [intOf]; omega
        · have hv : alT J = v := by
            rw [← HV.out]; unfold wantF; rw [HNO.out, firstN_yes hnone.out hJl hbq]
          have HV2 := Lib.hid hv
          clear hJq hv hbn
          go_wp2_with fail
          go_ret
          exact ⟨ret_str HV2.out.symm, HBw'.out⟩
    have hKl : K < 8 := by omega
    have j3 : (0 : Int) ≤ (K : Int) := by omega
    have j4 : (K : Int) < 8 := by omega
    have hx := (hb.out.cell (p := ⟨w.heap.size, K, none⟩) hg1).trans (HC1.out K hKl)
    have HBw := Lib.hid (HB1.out.trans (hb.out.mono HB1.out.size))
    cases hbq : ((nmB K).toList == s.toList)
    · have HNX := Lib.hid (hnone.out.next hbq)
      clear hKq
      go_wp2_with fail
      go_roundw
      case rel => exact ⟨K + 1, by omega, by go_num, HNX, hb⟩
      case measure => simp [intOf]; omega
    · have hv : nmB K = v := by
        rw [← HV.out]; unfold wantF; rw [firstN_yes hnone.out hKl hbq]
      have HV2 := Lib.hid hv
      clear hKq hv
      go_wp2_with fail
      go_ret
      exact ⟨ret_str HV2.out.symm, HBw.out⟩
end Go.Proofs.YtmenjcdmdmngcaaGreatDoor
namespace Go.Proofs.YtmenjcdmdmngcaaGreatDoor
set_option linter.unusedVariables false
set_option linter.unusedSimpArgs false
set_option linter.unnecessarySimpa false
open Go.RowKit
theorem EAtF.eat {L : Nat} {X : Nat → Prop} {w : World} {B p T : Nat} {rs : List Rl} {R : List Value} {q : List Int} {at_ st : Int} {ah : List Int} (h : EAtF L X w B p rs T R q at_ st ah) : EAt X w B p rs T R q at_ st ah := by
  obtain ⟨T0, ⟨_, hst⟩, h2, h3, h4, h5⟩ := h.tab
  exact ⟨h.le, h.tlt, ⟨T0, hst.self.1, hst.self.2, h2, h3, h4, h5⟩, h.long, h.seven, h.ahead, h.far, h.small, h.is⟩
theorem Us.toX {X Y : Nat → Prop} {w : World} {v : Value} {us : List Int} (h : Us X w v us) (hY : ∀ b, X b → Y b) : Us Y w v us := h.step (Nat.le_refl _) fun b _ hx => ⟨hY b hx, rfl⟩
theorem Mid.grow1 {S L p : Nat} {w w' : World} (h : w.grownBy w' (some p)) (h1 : S ≤ p) (h2 : p < L) : MidR S L w w' :=
  ⟨h.os, h.tape, h.output, h.size, fun k hk hr => h.block k hk (fun e => by injection e with e; omega)⟩
/-- a table's machine that reads -/
def DT (k S L : Nat) (w : World) (V : Value) : Prop := ∃ p R B, V = .iface 117 (.agg #[.pointer (some ⟨p, 0, none⟩)]) ∧ Stab S B w (fun W => TrieOK W B R (cdR k)) ∧ S ≤ B ∧ B ≤ p ∧ p < L ∧ L ≤ w.heap.size ∧ MAt w p R [] 0 0
/-- a table's machine that writes -/
def ET (k S L : Nat) (w : World) (V : Value) : Prop := ∃ p T B R, V = .iface 90 (.pointer (some ⟨p, 0, none⟩)) ∧ S ≤ B ∧ p < L ∧ L ≤ w.heap.size ∧ EAtF S (fun _ => False) w B p (cdR k) T R [] 0 0 []
section
variable {k S L : Nat} {w w' : World} {V : Value}
theorem DT.foot (h : DT k S L w V) : S ≤ L ∧ L ≤ w.heap.size ∧ IsM V := by
  obtain ⟨p, R, B, rfl, _, h1, h2, h3, h4, _⟩ := h; exact ⟨by omega, h4, _, _, rfl⟩
theorem ET.foot (h : ET k S L w V) : S ≤ L ∧ L ≤ w.heap.size ∧ IsM V := by
  obtain ⟨p, T, B, R, rfl, h1, h2, h3, h4⟩ := h
  have := h4.ple
  exact ⟨by omega, h3, _, _, rfl⟩
theorem DT.stay (h : DT k S L w V) (hs : w.heap.size ≤ w'.heap.size) (hk : ∀ b, S ≤ b → b < L → w'.heap[b]? = w.heap[b]?) : DT k S L w' V := by
  obtain ⟨p, R, B, rfl, h0, h1, h2, h3, h4, h5⟩ := h
  exact ⟨p, R, B, rfl, h0.step hs fun b g1 g2 => hk b g1 (by omega), h1, h2, h3, by omega, h5.of_block (hk p (by omega) h3)⟩
theorem ET.stay (h : ET k S L w V) (hs : w.heap.size ≤ w'.heap.size) (hk : ∀ b, S ≤ b → b < L → w'.heap[b]? = w.heap[b]?) : ET k S L w' V := by
  obtain ⟨p, T, B, R, rfl, h1, h2, h3, h4⟩ := h
  exact ⟨p, T, B, R, rfl, h1, h2, by omega, h4.stay hs (fun b g1 g2 => hk b g1 (by omega)) (fun b _ hx => hx.elim)⟩
theorem DT.all (n : Nat) (A : Option Addr) (c : Nat) (us : List Int) (ts : List Tk) (h : DT k S L w V) (h1 : 1 ≤ k) (h6 : k ≤ 6) (hn : us.length = n) (hu : Us (fun b => b < S ∨ L ≤ b) w (.slice A n c) us) (hn9 : n ≤ 20000) (hv : decL k us = ts) :
    Calls Tryz.prog 16 #[V, .slice A n c] w fun e w' => ∃ v, e = .returned v ∧ OwnTkB w.heap.size w' v ts ∧ (∀ w2, w'.heap.size ≤ w2.heap.size → (∀ b, b < w'.heap.size → v.ownBlock ≠ some b → w2.heap[b]? = w'.heap[b]?) → DHeld w2 V) ∧ MidR S L w w' := by
  obtain ⟨p, R, B, rfl, g0, g1, g2, g3, g4, g5⟩ := h
  rw [decL_t h1 h6] at hv
  refine (mallD_any w B p (cdR k) R 0 0 g5 g0.self g2 (by omega) (by omega) (by omega) (by omega) n A c us hn (hu.toX fun b hb => by omega) (by omega) ts hv).mono ?_
  rintro e w' ⟨v, s', rfl, ho, hm, -, -, hg⟩
  have hp := g5.lt
  refine ⟨v, rfl, ho, fun w2 hs hk => .inr (.inr ⟨p, rfl, ?_⟩), Mid.grow1 hg (by omega) g3⟩
  have hm2 := hm.of_block (hk p hm.lt (fun e => by have := (own_ltT ho e).1; omega))
  refine (mheld_any w2 p R [] _ _ hm2 0 rfl).mono ?_
  rintro e w3 ⟨rfl, rfl⟩
  exact ⟨rfl, Below.refl _ _⟩
theorem ET.all (n : Nat) (A : Option Addr) (c : Nat) (us : List Int) (ts : List Tk) (h : ET k S L w V) (h1 : 1 ≤ k) (h6 : k ≤ 6) (hn : us.length = n) (hu : Us (fun b => b < S ∨ L ≤ b) w (.slice A n c) us) (hn9 : n ≤ 20000) (hv : encK k us = ts) :
    Calls Tryz.prog 16 #[V, .slice A n c] w fun e w' => ∃ v, e = .returned v ∧ OwnTkB w.heap.size w' v ts ∧ (∀ w2, w'.heap.size ≤ w2.heap.size → (∀ b, b < w'.heap.size → v.ownBlock ≠ some b → w2.heap[b]? = w'.heap[b]?) → EHeld w2 V) ∧ MidR S L w w' := by
  obtain ⟨p, T, B, R, rfl, g1, g2, g3, g4⟩ := h
  rw [encK_t h1 h6] at hv
  have hple := g4.ple
  have hp := g4.lt
  refine (mallE_any w B p (cdR k) T R 0 0 [] (g4.weak (fun b hb => hb.elim) (fun b hb => hb)).eat (by omega) (by omega) (by omega) (by omega) n A c us hn (hu.toX fun b hb => by omega) (by omega) _ rfl).mono ?_
  rintro e w' ⟨v, s', rfl, ho, ⟨R', hm⟩, -, -, hg⟩
  have ho' : OwnTkB w.heap.size w' v ts := by rw [← hv]; exact ho
  refine ⟨v, rfl, ho', fun w2 hs hk => .inr (.inr ⟨p, rfl, ?_⟩), Mid.grow1 hg (by omega) g2⟩
  have hm2 := hm.is.of_block (hk p hm.lt (fun e => by have := (own_ltT ho e).1; omega))
  have H := Lib.hid (mheld_any w2 p T [] _ _ hm2 0 rfl)
  have HB := Lib.hid (Below.refl w2.heap.size w2)
  clear hm2 hm hk hs ho ho' hg g4
  go_enter Tryz.func191, Tryz.ntmps191
  go_wp2_with fail
  refine H.out.mono ?_
  rintro e w1 ⟨rfl, rfl⟩
  go_wp2_with fail
  go_ret
  exact ⟨rfl, HB.out⟩
end
end Go.Proofs.YtmenjcdmdmngcaaGreatDoor
