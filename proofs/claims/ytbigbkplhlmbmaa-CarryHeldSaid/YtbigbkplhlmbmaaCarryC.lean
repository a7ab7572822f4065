/- Layer 2: Held, End, Feed. -/
import Derived.Test.YtbigbkplhlmbmaaCarryB
namespace Go.Proofs.Ytbigbkplhlmbmaa
set_option linter.unusedVariables false
open Go.RowKit

theorem held_rdr (p : Nat) (q : List Int) (at_ : Int) (w : World) (hp : RdrAt w p q at_) :
    Calls Try.prog 25 #[.pointer (some ⟨p, 0, none⟩)] w fun e w' => e = .returned (.int .i64 q.length) ∧ w = w' := by
  obtain ⟨c4, _⟩ := hp.cells
  clear hp
  go_enter Try.func25, Try.ntmps25
  go_wp2
  go_ret
  exact ⟨rfl, rfl⟩

/-- what End tells -/
def endK (q : List Int) (at_ : Int) : List Tok := if q = [] then [] else [⟨at_, q.length, 2, []⟩]

set_option maxHeartbeats 800000 in
theorem end_rdr (p : Nat) (q : List Int) (at_ : Int) (w : World) (hp : RdrAt w p q at_) (h0 : 0 ≤ at_) (h1 : at_ ≤ 2251799813685248) (kn : List Tok) (n : Nat) (hk : endK q at_ = kn) (hn : kn.length = n) :
    Calls Try.prog 22 #[.pointer (some ⟨p, 0, none⟩)] w (RetPut w p kn n [] (at_ + q.length)) := by
  obtain ⟨c4, c5, _, hq4, _⟩ := hp.cells
  by_cases hq : q = []
  · subst hq
    have HP := Lib.hid hp
    obtain rfl : kn = [] := by rw [← hk]; rfl
    obtain rfl : n = 0 := by rw [← hn]; rfl
    clear hp hk hn
    go_enter Try.func22, Try.ntmps22
    go_wp2
    go_ret
    exact ⟨_, [], rfl, World.ownsRow_nil _ _ _ _, trivial, by simpa using HP.out, World.grownBy.refl w _⟩
  · have hz : ((q.length : Int) == 0) = false := by
      refine beq_eq_false_iff_ne.2 fun h => hq ?_
      exact List.eq_nil_of_length_eq_zero (by omega)
    have hq1 : 1 ≤ q.length := by
      rcases Nat.eq_zero_or_pos q.length with h | h
      · exact absurd (List.eq_nil_of_length_eq_zero h) hq
      · exact h
    have hkn : kn = [⟨at_, q.length, 2, []⟩] := by rw [← hk]; exact if_neg hq
    have HKN := Lib.hid hkn
    have HN := Lib.hid hn
    have HP := Lib.hid hp
    have hlt := hp.lt
    have hne : ¬ p = w.heap.size := by omega
    clear hp hk hn hkn hq
    go_enter Try.func22, Try.ntmps22
    go_wp2
    go_region
    have hba := (((Below.refl w.heap.size w).alloc (Nat.le_refl _) (.cells #[.int .i64 at_, .int .i64 q.length, .slice none 0 0, .int .i64 2] 41))).drew
    have HBA := Lib.hid hba
    have HRA := Lib.hid (HP.out.below hba)
    clear hba
    go_wp2_with fail
    refine (drop_any p q at_ q.length _ HRA.out hq1 hq4 (Nat.le_refl _) h0 (by omega)).mono ?_
    rintro e w6 ⟨rfl, hr6, hg6⟩
    rw [List.drop_length] at hr6
    have hb6 : w6.heap[w.heap.size]? = some (.cells #[.int .i64 at_, .int .i64 q.length, .slice none 0 0, .int .i64 2] 41 (0, 0)) :=
      (hg6.block w.heap.size (by simp) (by intro e; injection e with e; omega)).trans (heap_alloc_new w _)
    obtain ⟨g0, g1, g2, g3⟩ := arr_cells hb6
    have HR6 := Lib.hid hr6
    have HG6 := Lib.hid (grown_seq (grown_below (p := some p) HBA.out) hg6)
    clear hr6 hg6 hb6 c4 c5
    go_wp2
    go_ret
    refine ⟨_, [.int .i64 at_, .int .i64 q.length, .slice none 0 0, .int .i64 2], rfl, ?_, ?_, HR6.out.below ((Below.refl _ _).alloc (Nat.le_refl _) _), grown_seq HG6.out (grown_below ((Below.refl _ _).alloc (Nat.le_refl _) _))⟩
    · rw [← HN.out, HKN.out]
      exact World.ownsRow_lit w6 _ 1 (HG6.out.size) (by simp [maxLen]) rfl
    · rw [HKN.out]
      exact ⟨rfl, rfl, ⟨none, 0, rfl, by simp, by simp [maxLen], .inl rfl⟩, rfl, trivial⟩

theorem Toks.app {w : World} {B : Nat} : ∀ {xs ys : List Value} {ts us : List Tok}, Toks w B xs ts → Toks w B ys us → Toks w B (xs ++ ys) (ts ++ us)
  | [], ys, [], us, _, h => h
  | a :: b :: s :: e :: xs, ys, t :: ts, us, ⟨g1, g2, g3, g4, g5⟩, h => ⟨g1, g2, g3, g4, Toks.app g5 h⟩
theorem Toks.one {w : World} {B : Nat} : ∀ {xs : List Value} {ts : List Tok}, Toks w B xs ts → ∀ u ∈ xs, u.oneCell' = true
  | [], [], _, u, hu => by cases hu
  | a :: b :: s :: e :: xs, t :: ts, ⟨g1, g2, ⟨A, c, g3, _⟩, g4, g5⟩, u, hu => by
    subst g1 g2 g3 g4
    rcases List.mem_cons.1 hu with rfl | hu
    · rfl
    rcases List.mem_cons.1 hu with rfl | hu
    · rfl
    rcases List.mem_cons.1 hu with rfl | hu
    · rfl
    rcases List.mem_cons.1 hu with rfl | hu
    · rfl
    exact Toks.one g5 u hu
theorem grown_low {w W w2 : World} {r : Option Nat} {T size n : Nat} {v : Value} {xs : List Value} (h : w.grownBy W r) (hg : W.grownBy w2 v.ownBlock) (ho : W.ownsRow w.heap.size T size v n xs) : w.grownBy w2 r :=
  ⟨hg.os.trans h.os, hg.tape.trans h.tape, hg.output.trans h.output, Nat.le_trans h.size hg.size, fun k hk hr => (hg.block k (Nat.lt_of_lt_of_le hk h.size) (fun e => by
    have := (ho.lt k e.symm).1
    omega)).trans (h.block k hk hr)⟩
theorem RdrAt.grownV {w w' : World} {p base n size : Nat} {T : TypeId} {v : Value} {xs : List Value} {q : List Int} {at_ : Int} (h : RdrAt w p q at_) (ho : w.ownsRow base T size v n xs) (hp : p < base) (hg : w.grownBy w' v.ownBlock) : RdrAt w' p q at_ := by
  obtain ⟨x0, x1, x2, x3, h1, h2⟩ := h
  refine ⟨x0, x1, x2, x3, (hg.block p (heap_lt h1) fun e => ?_).trans h1, h2⟩
  have := (ho.lt p e.symm).1
  omega
theorem Rd.grownP {w w' : World} {p : Nat} {A : Option Addr} {xs : List Value} (h : Rd w p A xs) (hl : p ≤ w.heap.size) (hg : w.grownBy w' (some p)) : Rd w' p A xs :=
  h.keep (Nat.le_refl _) fun b o hb => World.cell?_of_block (w := w) (hg.block b (by omega) (by intro e; injection e with e; omega))

theorem HD_q3 {q : List Int} (h : HD q = q) : q.length ≤ 3 := by rw [← h]; exact (HD_len q).1
theorem KN_q {q : List Int} (h : HD q = q) (p : Int) : KN p q = [] := by rw [← h]; exact KN_HD p q
theorem KN_len (p : Int) (zs : List Int) : (KN p zs).length ≤ zs.length := knownF_len _ _ _

set_option maxHeartbeats 1600000 in
theorem feed_rdr (p : Nat) (q : List Int) (at_ : Int) (m : Nat) (A : Option Addr) (cap : Nat) (zs : List Int) (w : World) (hm : m = zs.length) (hp : RdrAt w p q at_) (hq : HD q = q) (hqb : ∀ z ∈ q, 0 ≤ z ∧ z ≤ 255) (hr : Rd w p A (zs.map (Value.int .u8))) (hl : zs.length ≤ 8388608) (hb : ∀ z ∈ zs, 0 ≤ z ∧ z ≤ 255)
    (h0 : 0 ≤ at_) (h1 : at_ ≤ 536870912) (kn : List Tok) (n : Nat) (hd : List Int) (hk : KN at_ (q ++ zs) = kn) (hn : kn.length = n) (hh : HD (q ++ zs) = hd) :
    Calls Try.prog 21 #[.pointer (some ⟨p, 0, none⟩), .slice A m cap] w (RetPut w p kn n hd (at_ + q.length + zs.length - hd.length)) := by
  subst hm
  obtain ⟨i0, hi, hz0, hz1, hz2⟩ := info_parts info44
  have hq3 := HD_q3 hq
  have hlt := hp.lt
  have HP := Lib.hid hp
  have HQ := Lib.hid hq
  have HQB := Lib.hid hqb
  have HR := Lib.hid hr
  have HB := Lib.hid hb
  have HK := Lib.hid hk
  have HN := Lib.hid hn
  have HH := Lib.hid hh
  clear hp hq hqb hr hb hk hn hh
  go_enter Try.func21, Try.ntmps21
  go_wp2
  go_loopw [5, 10] (fun v i wr => ∃ (K : Nat) (done : List Tok) (hd' : List Int) (xs : List Value), K ≤ zs.length ∧ i = .int .i64 K ∧ KN at_ (q ++ zs.take K) = done ∧ HD (q ++ zs.take K) = hd' ∧ wr.ownsRow w.heap.size 41 4 v done.length xs ∧
      Toks wr wr.heap.size xs done ∧ RdrAt wr p hd' (at_ + q.length + K - hd'.length) ∧ w.grownBy wr (some p)) (fun _ i _ => zs.length - (intOf i).toNat)
  case atStart => exact ⟨0, [], q, [], by omega, rfl, by simpa using KN_q HQ.out at_, by simpa using HQ.out, World.ownsRow_nil _ _ _ _, trivial, by simpa using HP.out, World.grownBy.refl w _⟩
  case round =>
    obtain ⟨K, done, hd', xs, hK, rfl, hkn, hhd, hown, htok, hrd, hgr⟩ := hrel
    have HOW := Lib.hid hown
    have HTO := Lib.hid htok
    have HKN := Lib.hid hkn
    have HHD := Lib.hid hhd
    have HRD := Lib.hid hrd
    have HGR := Lib.hid hgr
    clear hown htok hkn hhd hrd hgr
    by_cases hKl : K = zs.length
    · have hKl' : ¬ K < zs.length := by omega
      have HKL := Lib.hid hKl
      clear hKl
      go_wp2
      go_ret
      have h1 := HKN.out
      have h2 := HHD.out
      rw [HKL.out, List.take_length] at h1 h2
      rw [HK.out] at h1
      rw [HH.out] at h2
      subst h1 h2
      exact ⟨_, xs, rfl, by rw [← HN.out]; exact HOW.out, HTO.out, by rw [← HKL.out]; exact HRD.out, HGR.out⟩
    have hKl' : K < zs.length := by omega
    obtain ⟨b, o, rfl, hbl, hcell⟩ := rd_ints (HR.out.grownP (Nat.le_of_lt hlt) HGR.out) (by omega)
    have k1 := hcell K hKl'
    have hcb := getD_range (lo := 0) (hi := 255) HB.out K hKl'
    obtain ⟨c, hc⟩ : ∃ c, c = zs.getD K 0 := ⟨_, rfl⟩
    rw [← hc] at k1 hcb
    have htk : zs.take (K + 1) = zs.take K ++ [c] := by rw [List.take_succ_eq_append_getElem hKl', hc, List.getD_eq_getElem?_getD, List.getElem?_eq_getElem hKl']; rfl
    have HC := Lib.hid hc
    have HTK := Lib.hid htk
    have e4 : (0 : Int) ≤ K := by omega
    have e5 : (K : Int) < zs.length := by omega
    have hdl : hd'.length ≤ 3 ∧ hd'.length ≤ q.length + K := by have := HD_len (q ++ zs.take K); rw [HHD.out] at this; simp at this; omega
    have hhb : ∀ z ∈ hd', 0 ≤ z ∧ z ≤ 255 := by
      intro z hz
      rw [← HHD.out] at hz
      rcases List.mem_append.1 (heldF_mem _ _ z hz) with h | h
      · exact HQB.out z h
      · exact HB.out z (List.mem_of_mem_take h)
    have HHB := Lib.hid hhb
    have hka : KN at_ (q ++ zs.take (K + 1)) = done ++ KN (at_ + q.length + K - hd'.length) (hd' ++ [c]) := by
      rw [htk, ← List.append_assoc, KN_app, HKN.out, HHD.out]
      congr 2
      simp only [List.length_append, List.length_take]
      omega
    have hha : HD (q ++ zs.take (K + 1)) = HD (hd' ++ [c]) := by rw [htk, ← List.append_assoc, HD_app, HHD.out]
    obtain ⟨k2, hk2⟩ : ∃ k, KN (at_ + q.length + K - hd'.length) (hd' ++ [c]) = k := ⟨_, rfl⟩
    obtain ⟨n2, hn2⟩ : ∃ k, k2.length = k := ⟨_, rfl⟩
    obtain ⟨hd2, hh2⟩ : ∃ k, HD (hd' ++ [c]) = k := ⟨_, rfl⟩
    have hn2l : n2 ≤ 4 := by have := KN_len (at_ + q.length + K - hd'.length) (hd' ++ [c]); rw [hk2, hn2] at this; simp at this; omega
    have hdonel : done.length ≤ 8388612 := by have := KN_len at_ (q ++ zs.take K); rw [HKN.out] at this; simp at this; omega
    rw [hk2] at hka
    rw [hh2] at hha
    have HKA := Lib.hid hka
    have HHA := Lib.hid hha
    have HK2 := Lib.hid hk2
    have HN2 := Lib.hid hn2
    have HH2 := Lib.hid hh2
    clear hcell hc htk hhb hka hha hk2 hn2 hh2
    go_wp2_with fail
    refine (put_rdr p hd' _ c _ HRD.out hdl.1 (by omega) (by omega) hcb HHB.out k2 n2 hd2 HK2.out HN2.out HH2.out).mono ?_
    rintro e w4 ⟨v4, xs4, rfl, hown4, htok4, hrd4, hg4⟩
    obtain ⟨A4, c4, rfl, hc4, hm4⟩ := own_form hown4
    have hkeep := HOW.out.kept hg4 (by
      cases hv : Value.ownBlock _ with
      | none => exact .inl rfl
      | some k =>
        refine .inr fun e => ?_
        have := (HOW.out.lt k hv).1
        injection e with e
        omega)
    have hT4 := HTO.out.grownP HRD.out hg4
    go_wp2_with (at_builtin; refine wpList_app _ rfl _ _ 38 rfl w.heap.size 41 i0 _ 4 48 Try.underlying38 hi hz0 hz1 hz2 rfl (by decide) _ _ _ rfl hkeep w4.heap.size A4 n2 c4 xs4 rfl ?c1 (Rd.own hown4) ?c2 ?c3 ?c4 ?c5 ?_)
    case c1 => exact hown4.1
    case c2 => exact htok4.one
    case c3 => simp only [maxLen]; omega
    case c4 => omega
    case c5 => exact Nat.le_trans HGR.out.size hg4.size
    intro v5 w5 hown5 hg5
    have hT5 := ((hT4.app htok4).grown (Nat.le_refl _) hg5.size hkeep (by decide) hg5)
    have hr5 := hrd4.grownV hkeep hlt hg5
    have hgr5 := grown_low (grown_seq HGR.out hg4) hg5 hkeep
    have hpos : at_ + q.length + K - hd'.length + hd'.length + 1 - hd2.length = at_ + q.length + (K + 1 : Nat) - hd2.length := by omega
    rw [hpos] at hr5
    have HT5 := Lib.hid hT5
    have HR5 := Lib.hid hr5
    have HG5 := Lib.hid hgr5
    have hkl : (done ++ k2).length = done.length + n2 := by rw [List.length_append, HN2.out]
    rw [← hkl] at hown5
    clear hT5 hr5 hgr5 hpos hown4 htok4 hrd4 hg4 hkeep hT4 hkl
    go_wp2
    go_roundw
    case rel => exact ⟨K + 1, done ++ k2, hd2, _, by omega, by go_num, HKA.out, HHA.out, hown5, HT5.out, HR5.out, HG5.out⟩
    case measure => simp [intOf]; omega
end Go.Proofs.Ytbigbkplhlmbmaa
