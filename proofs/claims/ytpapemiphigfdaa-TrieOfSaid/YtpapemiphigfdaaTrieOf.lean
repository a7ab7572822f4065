/- TrieOf: the walk. -/
import Derived.Test.YtpapemiphigfdaaTrieQ
namespace Go.Proofs.Ytpapemiphigfdaa
set_option linter.unusedVariables false
open Go.RowKit
/-- a row of slices of units of the call's own, from block base on; the units lie below it -/
def OwnUs (base : Nat) (w : World) (v : Value) (S : List (List Int)) : Prop := ∃ ys, w.ownsRow base 24 1 v S.length ys ∧ ∀ (k : Nat) o, S[k]? = some o → ∃ y, ys[k]? = some y ∧ Us (· < base) w y o
theorem OwnUs.nil (base : Nat) (w : World) : OwnUs base w (.slice none 0 0) [] := ⟨[], World.ownsRow_nil _ _ _ _, by simp⟩
theorem OwnUs.below {base B : Nat} {w w' : World} {v : Value} {S : List (List Int)} (h : OwnUs base w v S) (hb : Below B w w') (hB : w.heap.size ≤ B) : OwnUs base w' v S := by
  obtain ⟨ys, h1, h2⟩ := h
  refine ⟨ys, own_below h1 hb hB, fun k o hk => ?_⟩
  obtain ⟨y, g1, g2⟩ := h2 k o hk
  exact ⟨y, g1, g2.step hb.size fun b hl hx => ⟨hx, hb.block b (by omega)⟩⟩
theorem OwnUs.push {base : Nat} {w w1 : World} {v v' y : Value} {S : List (List Int)} {ys : List Value} {o : List Int} (h1 : w.ownsRow base 24 1 v S.length ys) (h2 : ∀ (k : Nat) o, S[k]? = some o → ∃ y, ys[k]? = some y ∧ Us (· < base) w y o) (hy : Us (· < base) w y o)
    (ho : w1.ownsRow base 24 1 v' (S.length + 1) (ys ++ [y])) (hg : w.grownBy w1 v.ownBlock) : OwnUs base w1 v' (S ++ [o]) := by
  have hyl : ys.length = S.length := by have := h1.1; omega
  have st : ∀ {y : Value} {o : List Int}, Us (· < base) w y o → Us (· < base) w1 y o := fun h => h.step hg.size fun b hb hx => ⟨hx, hg.block b hb fun e => by have h3 := (h1.lt b e.symm).1; have h4 : b < base := hx; omega⟩
  refine ⟨ys ++ [y], by rw [List.length_append]; exact ho, fun k p hk => ?_⟩
  have hkl : k < S.length + 1 := by have := lt_of_some hk; simpa using this
  by_cases hkn : k = S.length
  · subst hkn
    rw [List.getElem?_append_right (by simp)] at hk
    simp at hk
    subst hk
    exact ⟨y, by rw [List.getElem?_append_right (by omega), hyl]; simp, st hy⟩
  · rw [List.getElem?_append_left (by omega)] at hk
    obtain ⟨y', g1, g2⟩ := h2 k p hk
    exact ⟨y', by rw [List.getElem?_append_left (by omega)]; exact g1, st g2⟩
theorem OwnUs.form {base : Nat} {w : World} {v : Value} {S : List (List Int)} (h : OwnUs base w v S) : ∃ A c, v = .slice A S.length c ∧ S.length ≤ c ∧ c ≤ maxLen ∧ ∀ (k : Nat) o, S[k]? = some o → ∃ b of_ A1 c1, A = some ⟨b, of_, none⟩ ∧ b < w.heap.size ∧ w.cell? ⟨b, of_ + k, none⟩ = some (.slice A1 o.length c1) ∧ Us (· < base) w (.slice A1 o.length c1) o := by
  obtain ⟨ys, h1, h2⟩ := h
  obtain ⟨A, c, rfl, h3, h4⟩ := own_form h1
  refine ⟨A, c, rfl, h3, h4, fun k o hk => ?_⟩
  obtain ⟨y, g1, g2⟩ := h2 k o hk
  have hyl : ys.length = S.length := by have := h1.1; omega
  have hkl := lt_of_some hk
  obtain ⟨A1, c1, e1, _⟩ := id g2
  rcases Rd.own h1 with h | ⟨b, off, k1, k2, k3⟩
  · rw [h] at hyl; simp at hyl; omega
  · exact ⟨b, off, A1, c1, k1, k2, by rw [k3 _ (by omega), g1, e1], by rw [← e1]; exact g2⟩
theorem mem_take_succ {S : List (List Int)} {I : Nat} (hI : I < S.length) (x : List Int) : x ∈ S.take (I + 1) ↔ x ∈ S.take I ∨ x = S[I] := by
  rw [List.take_succ_eq_append_getElem hI, List.mem_append, List.mem_singleton]
/-- what the law's first loop leaves -/
theorem seen_step {P0 S : List (List Int)} {In : List Int} {J : Nat} (h : [] :: S = growP P0 [] (In.take J)) (hJ : J < In.length) :
    (In.take (J + 1) ∈ S → [] :: S = growP P0 [] (In.take (J + 1))) ∧ (In.take (J + 1) ∉ S → [] :: (S ++ [In.take (J + 1)]) = growP P0 [] (In.take (J + 1))) := by
  have hne : In.take (J + 1) ≠ [] := by
    intro e
    have h := congrArg List.length e
    rw [List.length_take, List.length_nil] at h
    omega
  have hx : In.take J ++ [In[J]] = In.take (J + 1) := (List.take_succ_eq_append_getElem hJ).symm
  constructor
  · intro hm
    rw [growP_take hJ, ← h, hx]
    unfold addP
    rw [if_pos (List.mem_cons_of_mem _ hm)]
  · intro hm
    rw [growP_take hJ, ← h, hx]
    unfold addP
    rw [if_neg (by intro e; rcases List.mem_cons.1 e with e | e; exact hne e; exact hm e)]
    rfl

set_option maxHeartbeats 6400000 in
theorem trieOf_any (n : Nat) (A : Option Addr) (c : Nat) (rows : List RowL) (w : World) (hr : RwAt w w.heap.size A n c rows) :
    Calls Try.prog 4 #[.slice A n c] w fun e w' => e = .returned (.bool true) ∧ Below w.heap.size w w' := by
  obtain ⟨i0, hi, hz0, HZ1, hz2⟩ := info_parts infoints
  obtain ⟨rs, hrs⟩ : ∃ rs, rulesR rows = rs := ⟨_, rfl⟩
  have h40 : rs.length ≤ 40 := by rw [← hrs]; exact rulesR_len rows
  obtain ⟨kc, ec, hck⟩ : ∃ kc ec, checkR rs = (kc, ec) := ⟨_, _, rfl⟩
  have hce := check_err rs [] 0 kc ec hck
  obtain ⟨N, hN⟩ : ∃ N, N = rs.length := ⟨_, rfl⟩
  rw [← hN] at h40
  have HR := Lib.hid hr
  have HRS := Lib.hid hrs
  have HCK := Lib.hid hck
  have HN := Lib.hid hN
  clear hr hrs hck hN
  go_enter Try.func4, Try.ntmps4
  go_wp2_with fail
  refine (tawake_any _).mono ?_
  rintro e w1 ⟨rfl, hb1⟩
  have hs1 := hb1.size
  go_wp2_with fail
  refine (rules_any n A c rows w1.heap.size _ (HR.out.below hb1 hs1) (Nat.le_refl _) rs HRS.out).mono ?_
  rintro e w2 ⟨v2, rfl, ho2, hb2⟩
  have hs2 := hb2.size
  obtain ⟨A2, c2, rfl, hat2⟩ := ho2.form
  rw [← HN.out] at hat2 ⊢
  have HAT2 := Lib.hid hat2
  have hc2 := hat2.fits
  have hc3 := hat2.small
  unfold maxLen at hc3
  clear ho2 hat2
  go_wp2_with fail
  by_cases hec : ec = 0
  · have hkc : kc = -1 := hce.1 hec
    subst hec hkc
    have HG := Lib.hid (good_of HCK.out)
    refine (of_good N A2 c2 rs w2.heap.size _ HAT2.out (Nat.le_refl _) HCK.out).mono ?_
    rintro e w3 ⟨T, ns, nV, oV, xs, ys, V, rfl, ho, ht, hb3⟩
    have hs3 := hb3.size
    have HTR := Lib.hid ho.at
    have hlen : ns.length = (pathsR rs).length := ht.len
    have HL := Lib.hid hlen
    have HAT3 := Lib.hid (HAT2.out.below hb3 hs3)
    clear ho ht hlen
    go_wp2_with fail
    refine (check_any N A2 c2 rs w3.heap.size _ HAT3.out (Nat.le_refl _) (-1) 0 HCK.out).mono ?_
    rintro e w5 ⟨rfl, hb5⟩
    have hs5 := hb5.size
    have hbE5 : Below w.heap.size w w5 := hb1.trans ((hb2.trans ((hb3.trans (hb5.mono hs3)).mono hs2)).mono hs1)
    have hsE := hbE5.size
    have HAT5 := Lib.hid (HAT3.out.below hb5 hs5)
    have HTR5 := Lib.hid (HTR.out.below hb5 hs5)
    clear hb1 hb2 hb3 hb5
    go_wp2
    go_loopw [8, 46] (fun v i wr => ∃ (K : Nat) (S : List (List Int)), K ≤ N ∧ i = .int .i64 K ∧ Hid (OwnUs w5.heap.size wr v S) ∧ S.length ≤ 8 * K ∧ Hid ([] :: S = pathsR (rs.take K)) ∧ Below w5.heap.size w5 wr) (fun _ i _ => N - (intOf i).toNat)
    case atStart => exact ⟨0, [], by omega, rfl, OwnUs.nil _ _, by simp, rfl, Below.refl _ _⟩
    case round =>
      obtain ⟨K, S, hK, rfl, ho, hSl, hS, hb⟩ := hrel
      have hsz := hb.size
      by_cases hKn : K = N
      · have hK' : ¬ K < N := by omega
        have hlr := HN.out
        have hSE : ns.length = S.length + 1 := by
          rw [HL.out]
          have := congrArg List.length hS.out
          rw [List.take_of_length_le (by omega)] at this
          simpa using this.symm
        obtain ⟨A6, c6, rfl, h6, _⟩ := ho.out.form
        obtain ⟨Ls, hLs⟩ : ∃ Ls, Ls = S.length := ⟨_, rfl⟩
        rw [← hLs] at hSE hSl h6 ⊢
        have HSE := Lib.hid hSE
        have hbE := hbE5.trans (hb.mono hsE)
        have hTB := HTR5.out.below hb (Nat.le_refl _)
        have HTB := Lib.hid hTB
        clear hKn hlr hSE ho hS hTB hLs
        go_wp2_with fail
        refine (size_any wr w5.heap.size T ns _ HTB.out (Ls + 1) HSE.out).mono ?_
        rintro e w6 ⟨rfl, rfl⟩
        have hd : decide (((Ls + 1 : Nat) : Int) = (Ls : Int) + 1) = true := by simp
        go_wp2
        go_ret
        first
          | exact ⟨rfl, hbE⟩
          | exact ⟨ret_bool (by simp), hbE⟩
          | exact ⟨ret_bool (by omega), hbE⟩
      have hK' : K < N := by omega
      have hK1 : K < rs.length := by rw [← HN.out]; exact hK'
      have hsd := HG.out.side _ (List.getElem_mem hK1)
      obtain ⟨b, of2, rfl, hbB, A1, n1, c1, A3, n3, c3, g1, g2, e1, e2, e3, e4, f1, f2, f3, f4⟩ := HAT5.out.at hK1
      have k1 := (hb.cell (p := ⟨b, of2 + K * 2, none⟩) (by show b < _; omega)).trans g1
      have k2 := (hb.cell (p := ⟨b, of2 + K * 2 + 1, none⟩) (by show b < _; omega)).trans g2
      have k3 : (0 : Int) ≤ K := by omega
      have k4 : (K : Int) < N := by omega
      have hl1 : n1 ≤ 8 := by rw [e1]; exact hsd.2.1
      obtain ⟨In, hIn⟩ : ∃ In, In = rs[K].1 := ⟨_, rfl⟩
      rw [← hIn] at e1 e4
      have HIn := Lib.hid hIn
      have E1 := Lib.hid e1
      have E4 := Lib.hid e4
      obtain ⟨g8, hg8⟩ : ∃ g8, g8 = wr.heap.size := ⟨_, rfl⟩
      obtain ⟨P0, hP0⟩ : ∃ P0, P0 = pathsR (rs.take K) := ⟨_, rfl⟩
      rw [← hP0] at hS
      have HP0 := Lib.hid hP0
      have HG8 := Lib.hid hg8
      obtain ⟨wo, rfl⟩ : ∃ wo : World, wo = wr := ⟨_, rfl⟩
      have hsW : Below wo.heap.size wo (wo.alloc (.cells #[.slice A1 n1 c1, .slice A3 n3 c3] 41)) := (Below.refl _ _).alloc (Nat.le_refl _) _
      have HSW := Lib.hid hsW
      have HO1 := Lib.hid (ho.out.below hsW (Nat.le_refl _))
      have hq : (wo.alloc (.cells #[.slice A1 n1 c1, .slice A3 n3 c3] 41)).heap[wo.heap.size]? = some (.cells #[.slice A1 n1 c1, .slice A3 n3 c3] 41 (0, 0)) := heap_alloc_new wo _
      have HQ := Lib.hid hq
      unfold maxLen at e3 f3
      clear g1 g2 e1 e4 f1 f4 hsd hIn hP0 hsW hq hg8 hKn
      go_wp2
      rw [← HG8.out]
      go_loopw [8, 11] (fun v i wr => ∃ (J : Nat) (S : List (List Int)), J ≤ n1 ∧ i = .int .i64 ((J : Int) + 1) ∧ Hid (OwnUs w5.heap.size wr v S) ∧ S.length ≤ 8 * K + J ∧ Hid ([] :: S = growP P0 [] (In.take J)) ∧ Below w5.heap.size w5 wr ∧ Hid (wr.heap[g8]? = some (.cells #[.slice A1 n1 c1, .slice A3 n3 c3] 41 (0, 0)))) (fun _ i _ => n1 + 1 - (intOf i).toNat)
      case atStart => exact ⟨0, S, by omega, rfl, HO1, by omega, by simpa [growP] using hS, hb.trans (HSW.out.mono hsz), by rw [HG8.out]; exact HQ⟩
      case round =>
        obtain ⟨J, S, hJ, rfl, ho, hSl, hS, hb', hq'⟩ := hrel
        have hsz' := hb'.size
        have y0 : wr.cell? ⟨g8, 0, none⟩ = some (.slice A1 n1 c1) := by rw [cell_of_row _ _ _ _ _ _ hq'.out]; rfl
        by_cases hJn : J = n1
        · have hd1 : decide (((J : Int) + 1) ≤ (n1 : Int)) = false := by simp; omega
          have hE : Hid ([] :: S = pathsR (rs.take (K + 1))) := by
            rw [paths_take hK1, ← HP0.out, ← HIn.out, hS.out, List.take_of_length_le (by rw [← E1.out]; omega)]
            exact rfl
          clear hJn
          go_wp2
          go_roundw
          case rel => exact ⟨K + 1, S, by omega, by go_num, ho, by omega, hE, hb'⟩
          case measure => simp [intOf]; omega
        have hJ' : J < n1 := by omega
        have hJ1 : J < In.length := by rw [← E1.out]; exact hJ'
        have hd1 : decide (((J : Int) + 1) ≤ (n1 : Int)) = true := by simp; omega
        obtain ⟨x, hx⟩ : ∃ x, x = In.take (J + 1) := ⟨_, rfl⟩
        have hxl : J + 1 = x.length := by rw [hx]; simp; omega
        obtain ⟨st1, st2⟩ := seen_step hS.out hJ1
        rw [← hx] at st1 st2
        obtain ⟨A6, c6, rfl, h6, h7, hat⟩ := ho.out.form
        obtain ⟨Ls, hLs⟩ : ∃ Ls, Ls = S.length := ⟨_, rfl⟩
        have HLs := Lib.hid hLs
        rw [← hLs] at ho h6 hSl ⊢
        have HX := Lib.hid hx
        have HXL := Lib.hid hxl
        have ST1 := Lib.hid st1
        have ST2 := Lib.hid st2
        have HAT := Lib.hid hat
        have k5 : (0 : Int) ≤ (J : Int) + 1 := by omega
        have k6 : J + 1 ≤ c1 := by omega
        have k7 : (J : Int) + 1 ≤ n1 := by omega
        unfold maxLen at h7
        have HRX : Hid (Rd wr w5.heap.size A1 (x.map (Value.int .i64))) := by rw [hx]; exact rd_tk _ (E4.out.below hb' (Nat.le_refl _))
        have HB' := Lib.hid hb'
        obtain ⟨wm, rfl⟩ : ∃ wm : World, wm = wr := ⟨_, rfl⟩
        clear hJn hx hxl st1 st2 hat hLs hb'
        go_wp2
        go_loopw [12, 59] (fun s i wr => ∃ (I : Nat), I ≤ Ls ∧ i = .int .i64 I ∧ s = .bool (decide (x ∈ S.take I)) ∧ Below wm.heap.size wm wr) (fun _ i _ => Ls - (intOf i).toNat)
        case atStart => exact ⟨0, by omega, rfl, by simp, Below.refl _ _⟩
        case round =>
          obtain ⟨I, hI, rfl, rfl, hbi⟩ := hrel
          have hsi := hbi.size
          have hg8l := heap_lt0 hq'.out
          have y0' : wr.cell? ⟨g8, 0, none⟩ = some (.slice A1 n1 c1) := (hbi.cell (p := ⟨g8, 0, none⟩) hg8l).trans y0
          by_cases hIn_ : I = Ls
          · have hI' : ¬ I < Ls := by omega
            have hall : S.take I = S := List.take_of_length_le (by rw [hIn_, HLs.out]; exact Nat.le_refl _)
            rw [hall]
            have hbE : Below w5.heap.size w5 wr := HB'.out.trans (hbi.mono hsz')
            have hq2 : Hid (wr.heap[g8]? = some (.cells #[.slice A1 n1 c1, .slice A3 n3 c3] 41 (0, 0))) := (hbi.block g8 hg8l).trans hq'.out
            have ho2 := Lib.hid (ho.out.below hbi (Nat.le_refl _))
            by_cases hxm : x ∈ S
            · rw [decide_eq_true hxm]
              have hE : Hid ([] :: S = growP P0 [] (In.take (J + 1))) := by rw [← HX.out]; exact ST1.out hxm
              clear hIn_ hall hxm
              go_wp2
              go_roundw
              case rel => exact ⟨J + 1, S, by omega, by go_num, ho2, by have := HLs.out; omega, hE, hbE, hq2⟩
              case measure => simp [intOf]; omega
            · rw [decide_eq_false hxm]
              have hE : Hid ([] :: (S ++ [x]) = growP P0 [] (In.take (J + 1))) := by rw [← HX.out]; exact ST2.out hxm
              obtain ⟨ys6, hown, hels⟩ := ho2.out
              rw [← HLs.out] at hown
              have hba : Below wr.heap.size wr (wr.alloc (.cells #[.slice A1 (J + 1) c1] 24)) := (Below.refl _ _).alloc (Nat.le_refl _) _
              have HBA := Lib.hid hba
              have HELS := Lib.hid hels
              have hy : Us (· < w5.heap.size) (wr.alloc (.cells #[.slice A1 (J + 1) c1] 24)) (.slice A1 (J + 1) c1) x := us_at HXL.out k6 (by unfold maxLen; omega) (HRX.out.below ((hbi.trans (hba.mono hsi)).mono hsz') (Nat.le_refl _))
              have HY := Lib.hid hy
              have hsz2 := hbE.size
              clear hIn_ hall hxm hy hba hels
              go_wp2_with (at_builtin; refine wpList_appB _ rfl _ _ 33 rfl w5.heap.size 24 i0 _ 1 24 Try.underlying33 hi hz0 HZ1 hz2 rfl (by decide) _ _ _ rfl (hown.alloc _) (wr.heap.size + 1) _ 1 1 [.slice A1 (J + 1) c1] rfl rfl ?a1 ?a2 ?a3 ?a4 ?a5 ?_)
              case a1 => exact Rd_newR _ _ _ _ rfl
              case a2 => intro u hu; simp at hu; subst hu; rfl
              case a3 => simp only [maxLen]; omega
              case a4 => omega
              case a5 => simp; omega
              intro v7 w7 ho7 hg7 hn7
              have hsg : w7.heap[g8]? = some (.cells #[.slice A1 n1 c1, .slice A3 n3 c3] 41 (0, 0)) := by
                rw [hg7.block g8 (by simp; omega) (fun e => absurd (own_type (hown.alloc (.cells #[.slice A1 (J + 1) c1] 24)) e.symm ((Below.heap_alloc wr _ g8 (by omega)).trans hq2.out)) (by decide)), Below.heap_alloc wr _ g8 (by omega)]
                exact hq2.out
              have hO7 : Hid (OwnUs w5.heap.size w7 v7 (S ++ [x])) :=
                OwnUs.push (w := wr.alloc (.cells #[.slice A1 (J + 1) c1] 24)) (v := .slice A6 Ls c6) (by rw [← HLs.out]; exact hown.alloc _) (fun k o hk => by
                  obtain ⟨y, g1, g2⟩ := HELS.out k o hk
                  exact ⟨y, g1, g2.step (by simp) fun b hb hx => ⟨hx, Below.heap_alloc wr _ b hb⟩⟩) HY.out (by rw [← HLs.out]; exact ho7) hg7
              have hbE7 : Below w5.heap.size w5 w7 := below_own (hbE.trans (HBA.out.mono hsz2)) hg7 (hown.alloc _) (Nat.le_refl _) (by simp; omega)
              have hlen7 : (S ++ [x]).length ≤ 8 * K + (J + 1) := by have := HLs.out; simp; omega
              have HSG := Lib.hid hsg
              have HLEN7 := Lib.hid hlen7
              obtain ⟨A7, c7, ev7, _, _⟩ := own_form ho7
              subst ev7
              clear ho7 hg7 hn7 hown hsg hlen7
              go_wp2
              go_roundw
              case rel => exact ⟨J + 1, S ++ [x], by omega, by go_num, hO7, HLEN7.out, hE, hbE7, HSG⟩
              case measure => simp [intOf]; omega
          have hI' : I < Ls := by omega
          have hI1 : I < S.length := by rw [← HLs.out]; exact hI'
          obtain ⟨bb, o9, Ax, cx, rfl, hbb, hcx, hux⟩ := HAT.out I S[I] (List.getElem?_eq_getElem hI1)
          obtain ⟨r1, r2, r3, r4⟩ := hux.rd
          have hc9 := (hbi.cell (p := ⟨bb, o9 + I, none⟩) hbb).trans hcx
          obtain ⟨Sx, hSx⟩ : ∃ Sx, Sx = S[I] := ⟨_, rfl⟩
          obtain ⟨nS, hnS⟩ : ∃ nS, nS = Sx.length := ⟨_, rfl⟩
          rw [← hSx, ← hnS] at hc9 r2
          rw [← hSx] at r4
          have HRS9 := Lib.hid (r4.rdB.below (hbi.mono hsz') (Nat.le_refl _) : Rd wr w5.heap.size Ax (Sx.map (Value.int .i64)))
          have HRX9 := Lib.hid (HRX.out.below (hbi.mono hsz') (Nat.le_refl _) : Rd wr w5.heap.size A1 (x.map (Value.int .i64)))
          have k8 : (0 : Int) ≤ I := by omega
          have k9 : (I : Int) < Ls := by omega
          have HNS := Lib.hid hnS
          have hms := mem_take_succ hI1 x
          rw [← hSx] at hms
          unfold maxLen at r3
          have hnS63 : nS ≤ 9223372036854775807 := by omega
          clear hcx hux r1 r4 hIn_ hSx hnS
          by_cases hm : x ∈ S.take I
          · rw [decide_eq_true hm]
            have hE : decide (x ∈ S.take (I + 1)) = true := decide_eq_true (hms.2 (.inl hm))
            have HE := Lib.hid hE
            clear hm hms hE
            go_wp2
            go_roundw
            case rel => exact ⟨I + 1, by omega, by go_num, by rw [HE.out], hbi⟩
            case measure => simp [intOf]; omega
          · rw [decide_eq_false hm]
            obtain ⟨v, hv⟩ : ∃ v, eqB Sx x = v := ⟨_, rfl⟩
            have hE : decide (x ∈ S.take (I + 1)) = v := by
              rw [← hv]
              by_cases he : Sx = x
              · rw [eqB_t he]; exact decide_eq_true (hms.2 (.inr he.symm))
              · rw [eqB_f he]; exact decide_eq_false (fun h => (hms.1 h).elim hm fun h => he h.symm)
            have HE := Lib.hid hE
            have HVV := Lib.hid hv
            clear hm hms hE hv
            go_wp2_with fail
            refine (units_v nS (J + 1) Ax A1 cx c1 Sx x w5.heap.size w5.heap.size wr v HVV.out HNS.out HXL.out HRS9.out HRX9.out hnS63).mono ?_
            rintro e w9 ⟨rfl, m9, rfl⟩
            have hbe := below_dr hbi m9
            go_wp2
            go_roundw
            case rel => exact ⟨I + 1, by omega, by go_num, by rw [HE.out], hbe⟩
            case measure => simp [intOf]; omega
  · refine (of_bad N A2 c2 rs w2.heap.size _ HAT2.out (Nat.le_refl _) kc ec HCK.out hec).mono ?_
    rintro e w3 ⟨rfl, hb3⟩
    have hs3 := hb3.size
    have HAT3 := Lib.hid (HAT2.out.below hb3 hs3)
    go_wp2_with fail
    refine (check_any N A2 c2 rs w3.heap.size _ HAT3.out (Nat.le_refl _) kc ec HCK.out).mono ?_
    rintro e w5 ⟨rfl, hb5⟩
    have hbE5 : Below w.heap.size w w5 := hb1.trans ((hb2.trans ((hb3.trans (hb5.mono hs3)).mono hs2)).mono hs1)
    have hd : decide (ec ≠ 0) = true := by simpa using hec
    go_wp2
    go_ret
    first
      | exact ⟨rfl, hbE5⟩
      | exact ⟨ret_bool (by simp), hbE5⟩
end Go.Proofs.Ytpapemiphigfdaa
