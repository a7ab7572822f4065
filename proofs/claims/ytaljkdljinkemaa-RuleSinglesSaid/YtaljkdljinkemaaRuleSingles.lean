/- RuleSingles: the walk. -/
import Derived.Test.YtaljkdljinkemaaTwoR
namespace Go.Proofs.Ytaljkdljinkemaa
set_option linter.unusedVariables false
open Go.RowKit
theorem infopair : (Try.prog.info? 43).map (fun i => (i.zero, i.size, i.bytes)) = some (some (.agg #[.int .i64 0, .int .i64 0]), 2, 16) := by kernel_rfl
theorem two_new (w : World) (h : Nat) (hh : w.heap.size = h) (p q : Int) (o : Obj) (X : Nat → Prop) (hX : ∀ b, h ≤ b → X b) :
    Us X (((w.alloc (.cells #[.int .i64 p] 3)).alloc (.cells #[.int .i64 q] 3)).alloc o).drew (.slice (some ⟨h, 0, none⟩) 1 1) [p] ∧ Us X (((w.alloc (.cells #[.int .i64 p] 3)).alloc (.cells #[.int .i64 q] 3)).alloc o).drew (.slice (some ⟨h + 1, 0, none⟩) 1 1) [q] := by
  subst hh
  refine ⟨(us_new w w.heap.size rfl p).step (by simp) fun b hb he => ⟨hX b (by have : b = w.heap.size := he; omega), ?_⟩, (us_new (w.alloc (.cells #[.int .i64 p] 3)) (w.heap.size + 1) (by simp) q).step (by simp) fun b hb he => ⟨hX b (by have : b = w.heap.size + 1 := he; omega), ?_⟩⟩
  · show ((((w.alloc (.cells #[.int .i64 p] 3)).alloc (.cells #[.int .i64 q] 3)).alloc o)).heap[b]? = _
    rw [Below.heap_alloc _ _ _ (by simp at hb ⊢; omega), Below.heap_alloc _ _ _ hb]
  · show ((((w.alloc (.cells #[.int .i64 p] 3)).alloc (.cells #[.int .i64 q] 3)).alloc o)).heap[b]? = _
    rw [Below.heap_alloc _ _ _ hb]
theorem below_three (w : World) (S : Nat) (hS : S ≤ w.heap.size) (o1 o2 o3 : Obj) : Below S w (((w.alloc o1).alloc o2).alloc o3).drew := ((((Below.refl _ _).alloc hS _).alloc (by simp; omega) _).alloc (by simp; omega) _).drew
theorem below_un {B : Nat} {a b : World} (h : Below B a b) : Below B a.drew b := ⟨h.os, h.tape, h.output, h.size, h.block⟩
theorem Rd_drewR {w : World} {B : Nat} {A : Option Addr} {xs : List Value} (h : Rd w B A xs) : Rd w.drew B A xs := h.below ((Below.refl B w).drew) (Nat.le_refl _)
set_option maxHeartbeats 3200000 in
theorem ruleSingles_any (A : Option Addr) (c : Nat) (xa : List Int) (A' : Option Addr) (c' : Nat) (xb : List Int) (w : World) (hr : Rd w w.heap.size A (xa.map (Value.int .i64))) (hr' : Rd w w.heap.size A' (xb.map (Value.int .i64))) (hc : xa.length ≤ c) (hc' : xb.length ≤ c') :
    Calls Try.prog 7 #[.slice A xa.length c, .slice A' xb.length c'] w fun e w' => e = .returned (.bool true) ∧ Below w.heap.size w w' := by
  obtain ⟨i0, hi, hz0, HZ1, hz2⟩ := info_parts inforl
  obtain ⟨j0, hj, hy0, HY1, hy2⟩ := info_parts infopair
  obtain ⟨n, hn⟩ : ∃ n, n = xa.length := ⟨_, rfl⟩
  obtain ⟨n', hn'⟩ : ∃ n', n' = xb.length := ⟨_, rfl⟩
  rw [← hn] at hc ⊢
  rw [← hn'] at hc' ⊢
  have HR := Lib.hid hr
  have HR' := Lib.hid hr'
  have HN := Lib.hid hn
  have HN' := Lib.hid hn'
  clear hr hr' hn hn'
  go_enter Try.func7, Try.ntmps7
  go_wp2_with fail
  refine (rawake_any _).mono ?_
  rintro e w1 ⟨rfl, hb1⟩
  have hs1 := hb1.size
  obtain ⟨q, hq1, hq2, hq3, hq4⟩ : ∃ q : Nat, q ≤ n ∧ q ≤ n' ∧ q ≤ 60 ∧ (q = n ∨ q = n' ∨ q = 60) := ⟨min (min n n') 60, by omega, by omega, by omega, by omega⟩
  have HQ := Lib.hid hq4
  clear hq4
  go_upto_region 3 with fail
  go_cut [5] (fun s5 wx => s5 = .int .i64 q ∧ wx = w1)
  case first =>
    go_wp2
    all_goals
      go_meet
      have := HQ.out
      exact ⟨congrArg (Value.int .i64) (by omega), rfl⟩
  case rest =>
    obtain ⟨rfl, rfl⟩ := hcut
    obtain ⟨S, hS⟩ : ∃ S, S = w.heap.size := ⟨_, rfl⟩
    have hS1 : S ≤ wc.heap.size := by omega
    have HSS := Lib.hid hS
    have HRS : Hid (Rd w S A (xa.map (Value.int .i64))) := by rw [hS]; exact HR.out
    have HRS' : Hid (Rd w S A' (xb.map (Value.int .i64))) := by rw [hS]; exact HR'.out
    rw [← hS] at hb1
    clear hS
    go_wp2
    go_loopw [6, 7, 8] (fun vR vW i wr => ∃ (K : Nat) (qs : List (Int × Int)) (acc : List Rl), K ≤ q ∧ i = .int .i64 K ∧ Hid (TwoR S wr vR vW qs acc) ∧ Hid ((xa.zip xb).take K = qs) ∧ Hid (singR qs = acc) ∧ qs.length ≤ K ∧ acc.length ≤ K ∧ Below S w wr) (fun _ _ i _ => q - (intOf i).toNat)
    case atStart => exact ⟨0, [], [], by omega, rfl, TwoR.nil _ _, rfl, rfl, by simp, by simp, hb1⟩
    case round =>
      obtain ⟨K, qs, acc, hK, rfl, ht, hqs, hac, hl1, hl2, hb⟩ := hrel
      have hs : S ≤ wr.heap.size := by rw [HSS.out]; exact hb.size
      by_cases hKq : K = q
      · have hK' : ¬ K < q := by omega
        clear hKq
        have hqs2 : qs.length = K := by rw [← hqs.out]; simp; rw [← HN.out, ← HN'.out]; omega
        obtain ⟨A7, c7, rfl, hc7, hm7⟩ := own_form ht.out.rows
        obtain ⟨h1, xs, h2, h3⟩ := id ht.out
        obtain ⟨A8, c8, rfl, hc8, hm8⟩ := own_form h2
        have HRd := Lib.hid (Rd.own h1)
        have HAT : Hid (RsAt wr wr.heap.size A8 acc.length c8 acc) := ⟨rfl, hc8, hm8, xs, Rd.own h2, h3.step (Nat.le_refl _) fun b hb _ => ⟨hb, rfl⟩⟩
        clear h1 h2 h3 hm7 hm8 hqs2
        go_wp2_with fail
        refine (singles_any qs.length A7 c7 qs wr.heap.size _ rfl HRd.out (Nat.le_refl _) (by omega) acc hac.out).mono ?_
        rintro e w8 ⟨v8, rfl, ho8, hb8⟩
        obtain ⟨A9, c9, rfl, hat9⟩ := ho8.form
        have HAT9 := Lib.hid hat9
        clear hat9 ho8
        go_wp2_with fail
        refine (rsame_true acc.length acc.length A9 A8 c9 c8 acc w8.heap.size wr.heap.size _ HAT9.out (HAT.out.below hb8 (Nat.le_refl _))).mono ?_
        rintro e w9 ⟨rfl, m9, hw9⟩
        have hb9 : Below w8.heap.size w8 w9 := by rw [hw9]; exact below_dr (Below.refl _ _) _
        have hs8 := hb8.size
        clear hw9
        go_wp2
        go_ret
        exact ⟨rfl, by rw [← HSS.out]; exact hb.trans ((hb8.trans (hb9.mono hs8)).mono hs)⟩
      have hK' : K < q := by omega
      have hKa : K < xa.length := by rw [← HN.out]; omega
      have hKb : K < xb.length := by rw [← HN'.out]; omega
      obtain ⟨b, o, rfl, hbl, hce⟩ := rd_ints HRS.out (by omega)
      obtain ⟨b', o', rfl, hbl', hce'⟩ := rd_ints HRS'.out (by omega)
      have g1 := hce K hKa
      have g2 := hce' K hKb
      obtain ⟨x, hx⟩ : ∃ x, xa.getD K 0 = x := ⟨_, rfl⟩
      obtain ⟨y, hy⟩ : ∃ y, xb.getD K 0 = y := ⟨_, rfl⟩
      rw [hx] at g1
      rw [hy] at g2
      have hzip : (xa.zip xb).take (K + 1) = qs ++ [(x, y)] := by
        have hKz : K < (xa.zip xb).length := by simp; omega
        have ea : xa.getD K 0 = xa[K] := by simp [List.getD_eq_getElem?_getD, hKa]
        have eb : xb.getD K 0 = xb[K] := by simp [List.getD_eq_getElem?_getD, hKb]
        rw [List.take_succ_eq_append_getElem hKz, hqs.out, List.getElem_zip, ← ea, ← eb, hx, hy]
      have hsing : singR (qs ++ [(x, y)]) = acc ++ [([x], [y])] := by rw [← hac.out]; simp [singR]
      have HZ := Lib.hid hzip
      have HSG := Lib.hid hsing
      have G1 := Lib.hid g1
      have G2 := Lib.hid g2
      have k0 : (0 : Int) ≤ K := by omega
      have k1 : (K : Int) < n := by omega
      have k2 : (K : Int) < n' := by omega
      obtain ⟨hlR, hlW⟩ := ht.out.low
      have HLR := Lib.hid hlR
      have HLW := Lib.hid hlW
      obtain ⟨h1, xs, h2, h3⟩ := id ht.out
      obtain ⟨A7, c7, rfl, hc7, hm7⟩ := own_form h1
      obtain ⟨A8, c8, rfl, hc8, hm8⟩ := own_form h2
      clear hce hce' hx hy hzip hsing g1 g2 hlR hlW h2 h3 hm7 hm8
      go_upto_region 9 with fail
      refine wp_region_mixe (G := Below S) [(0, false), (1, false), (2, false), (3, false), (4, false), (5, false), (6, false), (7, false), (8, false), (9, false), (10, true), (11, true), (12, false)]
        (below_fix _) (below_fix_trans _) (by kernel_rfl) rfl (by kernel_rfl) (by kernel_rfl) ?_
      have q1 := (hb.cell (p := ⟨b, o + K, none⟩) hbl).trans G1.out
      have q2 := (hb.cell (p := ⟨b', o' + K, none⟩) hbl').trans G2.out
      have Q1 := Lib.hid q1
      have Q2 := Lib.hid q2
      clear q1 q2
      iterate 4 (refine mixe_one rfl rfl ?_; go_big_quiet_step ((intro _; rfl)); refine wpQuiet_nil ?_)
      refine mixe_one rfl rfl ?_
      go_big_quiet_step ((intro hh; rw [hh.cell (p := ⟨b, o + K, none⟩) hbl, World.cell?_drew, Q1.out]; exact ⟨rfl, rfl⟩))
      refine wpQuiet_nil ?_
      iterate 3 (refine mixe_one rfl rfl ?_; go_big_quiet_step ((intro _; rfl)); refine wpQuiet_nil ?_)
      refine mixe_one rfl rfl ?_
      go_big_quiet_step ((intro hh; rw [hh.cell (p := ⟨b', o' + K, none⟩) hbl', World.cell?_drew, Q2.out]; exact ⟨rfl, rfl⟩))
      refine wpQuiet_nil ?_
      refine mixe_one rfl rfl ?_
      go_big_quiet_step ((intro _; rfl))
      refine wpQuiet_nil ?_
      refine mixe_call rfl ?_
      go_wp2_with fail
      refine ⟨below_un (((Below.refl _ _).alloc hs _).drew), ?_⟩
      have hb9 : Below wr.heap.size wr (wr.alloc (.cells #[.int .i64 x, .int .i64 y] 43)).drew := ((Below.refl _ _).alloc (Nat.le_refl _) _).drew
      have ht9 := ht.out.below hb9 (Nat.le_refl _)
      have HT9 := Lib.hid ht9
      have h19 := ht9.rows
      have hrw := Rd_drewR (Rd_newR wr #[.int .i64 x, .int .i64 y] 43 wr.heap.size rfl)
      have HRW := Lib.hid hrw
      clear ht9 hrw h1
      refine mixe_call rfl ?_
      go_wp2_with (at_builtin; refine wpList_appB _ rfl _ _ 42 rfl S 43 j0 _ 2 16 Try.underlying42 hj hy0 HY1 hy2 rfl (by decide) _ _ _ rfl h19 (wr.heap.size + 1) _ 1 1 [.int .i64 x, .int .i64 y] rfl rfl HRW.out ?c2 ?c3 ?c4 ?c5 ?_)
      case c2 => first | exact ⟨rfl, rfl⟩ | (intro u hu; simp only [List.mem_cons, List.not_mem_nil, or_false] at hu; rcases hu with rfl | rfl <;> rfl)
      case c3 => simp only [maxLen]; omega
      case c4 => omega
      case c5 => first | omega | (simp; omega)
      intro v10 w10 hown10 hg10 hv10
      have hb10' : Below S (wr.alloc (.cells #[.int .i64 x, .int .i64 y] 43)).drew w10 := below_own (Below.refl _ _) hg10 h19 (Nat.le_refl _) (by simp; omega)
      have hb10 : Below S w w10 := hb.trans ((hb9.mono hs).trans hb10')
      have hpush := TwoR.pushR (p := x) (q := y) HT9.out (by simpa using hown10) hg10 (by simpa using hv10)
      have HT10 := Lib.hid hpush
      clear hown10 hpush hg10 hv10 h19
      have hs10 : S ≤ w10.heap.size := by rw [HSS.out]; exact hb10.size
      go_wp2_with fail
      refine ⟨hb10', ?_⟩
      refine mixe_one rfl rfl ?_
      go_big_quiet_step ((intro _; rfl))
      refine wpQuiet_nil ?_
      refine NoPanic.normal ?_
      have q1 := (hb10.cell (p := ⟨b, o + K, none⟩) hbl).trans G1.out
      have q2 := (hb10.cell (p := ⟨b', o' + K, none⟩) hbl').trans G2.out
      have Q3 := Lib.hid q1
      have Q4 := Lib.hid q2
      obtain ⟨hlR, hlW⟩ := HT10.out.low
      have hX10 : ∀ b, w10.heap.size ≤ b → v10.ownBlock ≠ some b ∧ (Value.slice A8 acc.length c8).ownBlock ≠ some b := fun b hb => ⟨fun e => by have := (hlR b e).2; omega, fun e => by have := (hlW b e).2; omega⟩
      clear q1 q2 hlR hlW
      go_upto_region 10 with fail
      refine wp_region_fork (G := Below S) (.soft 0 (.soft 1 (.soft 2 (.soft 3 (.soft 4 (.soft 6 (.soft 7 (.soft 8 (.soft 9 (.two 5 10 (.one 10 (.soft 11 (.one 12 (.one 13 (.soft 14 .done))))) (.one 5 (.soft 11 (.one 12 (.one 13 (.soft 14 .done)))))))))))))))
        (below_fix _) (below_fix_trans _) (by kernel_rfl) rfl (by kernel_rfl) (by kernel_rfl) ?_
      iterate 4 (refine fork_soft rfl rfl ?_; go_big_quiet_step ((intro _; rfl)); refine wpQuiet_nil ?_)
      refine fork_soft rfl rfl ?_
      go_big_quiet_step ((intro hh; rw [hh.cell (p := ⟨b, o + K, none⟩) hbl, World.cell?_drew, Q3.out]; exact ⟨rfl, rfl⟩))
      refine wpQuiet_nil ?_
      iterate 3 (refine fork_soft rfl rfl ?_; go_big_quiet_step ((intro _; rfl)); refine wpQuiet_nil ?_)
      refine fork_soft rfl rfl ?_
      go_big_quiet_step ((intro hh; rw [hh.cell (p := ⟨b', o' + K, none⟩) hbl', World.cell?_drew, Q4.out]; exact ⟨rfl, rfl⟩))
      refine wpQuiet_nil ?_
      refine fork_two rfl rfl ?_ ?_
      · go_wp2_with fail
        refine ⟨below_un (((Below.refl _ _).alloc hs10 _).drew), ?_⟩
        refine fork_one rfl ?_
        go_wp2_with fail
        refine ⟨below_un (((Below.refl S (w10.alloc _)).alloc (by simp; omega) _).drew), ?_⟩
        refine fork_soft rfl rfl ?_
        go_big_quiet_step ((intro _; rfl))
        refine wpQuiet_nil ?_
        refine fork_one rfl ?_
        go_wp2_with fail
        refine ⟨below_un (((Below.refl S ((w10.alloc _).alloc _)).alloc (by simp; omega) _).drew), ?_⟩
        have hbW := below_three w10 w10.heap.size (Nat.le_refl _) (.cells #[.int .i64 x] 3) (.cells #[.int .i64 y] 3) (.cells #[.slice (some ⟨w10.heap.size, 0, none⟩) 1 1, .slice (some ⟨w10.heap.size + 1, 0, none⟩) 1 1] 28)
        obtain ⟨h5, ys, h6, h7⟩ := HT10.out.below hbW (Nat.le_refl _)
        have H7 := Lib.hid h7
        have hrw := Rd_drewR (Rd_newR ((w10.alloc (.cells #[.int .i64 x] 3)).alloc (.cells #[.int .i64 y] 3)) #[.slice (some ⟨w10.heap.size, 0, none⟩) 1 1, .slice (some ⟨w10.heap.size + 1, 0, none⟩) 1 1] 28 (w10.heap.size + 1 + 1) (by simp))
        have HRW := Lib.hid hrw
        clear h7 hrw
        refine fork_one rfl ?_
        go_wp2_with (at_builtin; refine wpList_appB _ rfl _ _ 24 rfl S 28 i0 _ 2 48 Try.underlying24 hi hz0 HZ1 hz2 rfl (by decide) _ _ _ rfl h6 (w10.heap.size + 1 + 1 + 1) _ 1 1 [.slice (some ⟨w10.heap.size, 0, none⟩) 1 1, .slice (some ⟨w10.heap.size + 1, 0, none⟩) 1 1] rfl rfl HRW.out ?c2 ?c3 ?c4 ?c5 ?_)
        case c2 => first | exact ⟨rfl, rfl⟩ | (intro u hu; simp only [List.mem_cons, List.not_mem_nil, or_false] at hu; rcases hu with rfl | rfl <;> rfl)
        case c3 => simp only [maxLen]; omega
        case c4 => omega
        case c5 => first | omega | (simp; omega)
        intro v11 w11 hown11 hg11 hv11
        have hbA : Below S w10 w11 := below_own (hbW.mono hs10) hg11 h6 (Nat.le_refl _) (by simp; omega)
        have hbA' : Below S (((w10.alloc (.cells #[.int .i64 x] 3)).alloc (.cells #[.int .i64 y] 3)).alloc (.cells #[.slice (some ⟨w10.heap.size, 0, none⟩) 1 1, .slice (some ⟨w10.heap.size + 1, 0, none⟩) 1 1] 28)).drew w11 := below_own (Below.refl _ _) hg11 h6 (Nat.le_refl _) (by simp; omega)
        have hpush := TwoR.pushW (r := ([x], [y])) h5 h6 H7.out (two_new w10 w10.heap.size rfl x y _ _ hX10).1 (two_new w10 w10.heap.size rfl x y _ _ hX10).2 (by simpa using hown11) hg11 (by simpa using hv11)
        have HPW := Lib.hid hpush
        clear hown11 hpush h5 h6 hg11 hv11
        go_wp2_with fail
        refine ⟨hbA', ?_⟩
        refine fork_soft rfl rfl ?_
        go_big_quiet_step ((intro _; rfl))
        refine wpQuiet_nil ?_
        refine fork_done (NoPanic.normal ?_)
        go_wp2
        go_roundw
        case rel => exact ⟨K + 1, _, _, by omega, by go_num, HPW, HZ, HSG, by simp; omega, by simp; omega, hb10.trans hbA⟩
        case measure => simp [intOf]; omega
      · go_wp2_with fail
        refine ⟨below_un (((Below.refl _ _).alloc hs10 _).drew), ?_⟩
        refine fork_one rfl ?_
        go_wp2_with fail
        refine ⟨below_un (((Below.refl S (w10.alloc _)).alloc (by simp; omega) _).drew), ?_⟩
        refine fork_soft rfl rfl ?_
        go_big_quiet_step ((intro _; rfl))
        refine wpQuiet_nil ?_
        refine fork_one rfl ?_
        go_wp2_with fail
        refine ⟨below_un (((Below.refl S ((w10.alloc _).alloc _)).alloc (by simp; omega) _).drew), ?_⟩
        have hbW := below_three w10 w10.heap.size (Nat.le_refl _) (.cells #[.int .i64 y] 3) (.cells #[.int .i64 x] 3) (.cells #[.slice (some ⟨w10.heap.size + 1, 0, none⟩) 1 1, .slice (some ⟨w10.heap.size, 0, none⟩) 1 1] 28)
        obtain ⟨h5, ys, h6, h7⟩ := HT10.out.below hbW (Nat.le_refl _)
        have H7 := Lib.hid h7
        have hrw := Rd_drewR (Rd_newR ((w10.alloc (.cells #[.int .i64 y] 3)).alloc (.cells #[.int .i64 x] 3)) #[.slice (some ⟨w10.heap.size + 1, 0, none⟩) 1 1, .slice (some ⟨w10.heap.size, 0, none⟩) 1 1] 28 (w10.heap.size + 1 + 1) (by simp))
        have HRW := Lib.hid hrw
        clear h7 hrw
        refine fork_one rfl ?_
        go_wp2_with (at_builtin; refine wpList_appB _ rfl _ _ 24 rfl S 28 i0 _ 2 48 Try.underlying24 hi hz0 HZ1 hz2 rfl (by decide) _ _ _ rfl h6 (w10.heap.size + 1 + 1 + 1) _ 1 1 [.slice (some ⟨w10.heap.size + 1, 0, none⟩) 1 1, .slice (some ⟨w10.heap.size, 0, none⟩) 1 1] rfl rfl HRW.out ?c2 ?c3 ?c4 ?c5 ?_)
        case c2 => first | exact ⟨rfl, rfl⟩ | (intro u hu; simp only [List.mem_cons, List.not_mem_nil, or_false] at hu; rcases hu with rfl | rfl <;> rfl)
        case c3 => simp only [maxLen]; omega
        case c4 => omega
        case c5 => first | omega | (simp; omega)
        intro v11 w11 hown11 hg11 hv11
        have hbA : Below S w10 w11 := below_own (hbW.mono hs10) hg11 h6 (Nat.le_refl _) (by simp; omega)
        have hbA' : Below S (((w10.alloc (.cells #[.int .i64 y] 3)).alloc (.cells #[.int .i64 x] 3)).alloc (.cells #[.slice (some ⟨w10.heap.size + 1, 0, none⟩) 1 1, .slice (some ⟨w10.heap.size, 0, none⟩) 1 1] 28)).drew w11 := below_own (Below.refl _ _) hg11 h6 (Nat.le_refl _) (by simp; omega)
        have hpush := TwoR.pushW (r := ([x], [y])) h5 h6 H7.out (two_new w10 w10.heap.size rfl y x _ _ hX10).2 (two_new w10 w10.heap.size rfl y x _ _ hX10).1 (by simpa using hown11) hg11 (by simpa using hv11)
        have HPW := Lib.hid hpush
        clear hown11 hpush h5 h6 hg11 hv11
        go_wp2_with fail
        refine ⟨hbA', ?_⟩
        refine fork_soft rfl rfl ?_
        go_big_quiet_step ((intro _; rfl))
        refine wpQuiet_nil ?_
        refine fork_done (NoPanic.normal ?_)
        go_wp2
        go_roundw
        case rel => exact ⟨K + 1, _, _, by omega, by go_num, HPW, HZ, HSG, by simp; omega, by simp; omega, hb10.trans hbA⟩
        case measure => simp [intOf]; omega
end Go.Proofs.Ytaljkdljinkemaa
