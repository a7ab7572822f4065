/- Texts of this seat, one behind the other: ScR, ScS, ScT, ScU, ScV. -/
import Derived.Test.YtncpokioagpclaaGreatDoorZ42
import Derived.Deep.CutRange
import Derived.Test.YtncpokioagpclaaGreatDoorZ37
import Derived.Test.YtncpokioagpclaaGreatDoorZ6
namespace Go.Proofs.YtncpokioagpclaaGreatDoor
set_option linter.unusedVariables false
set_option linter.unusedSimpArgs false
set_option linter.unnecessarySimpa false
open Go.RowKit Go.Lib
/-- a row of acts of one's own, whose texts are one's own, too -/
def OwnAcN (base : Nat) (w : World) (v : Value) (az : List Ac) : Prop := ∃ xs, w.ownsRow base 81 3 v az.length xs ∧ Acs (fun b => base ≤ b ∧ v.ownBlock ≠ some b) w xs az
theorem OwnAcN.to {base : Nat} {w : World} {v : Value} {az : List Ac} (h : OwnAcN base w v az) : OwnAc base w v az := by
  obtain ⟨xs, ho, ha⟩ := h
  exact ⟨xs, ho, ha.step (Nat.le_refl _) fun b _ hx => ⟨hx.2, rfl⟩⟩
theorem OwnAcN.form {base : Nat} {w : World} {v : Value} {az : List Ac} (h : OwnAcN base w v az) : ∃ A c, v = .slice A az.length c ∧ az.length ≤ c ∧ c ≤ maxLen := h.to.form
theorem OwnAcN.nil (w : World) (base : Nat) : OwnAcN base w (.slice none 0 0) [] := ⟨[], World.ownsRow_nil w base _ 3, trivial⟩
theorem OwnAcN.below {base : Nat} {w w' : World} {v : Value} {az : List Ac} (h : OwnAcN base w v az) (hb : Below w.heap.size w w') : OwnAcN base w' v az := by
  obtain ⟨xs, ho, ha⟩ := h
  exact ⟨xs, own_below ho hb (Nat.le_refl _), ha.step hb.size fun b hl hx => ⟨hx, hb.block b hl⟩⟩
theorem OwnAcN.cells {base : Nat} {w : World} {A : Option Addr} {n c : Nat} {az : List Ac} (h : OwnAcN base w (.slice A n c) az) (hn : az.length = n) {K : Nat} (hK : K < n) :
    ∃ g t, A = some ⟨g, 0, none⟩ ∧ base ≤ g ∧ w.cell? ⟨g, K * 3, none⟩ = some (.int .i64 (az[K]'(by omega)).kind) ∧ w.cell? ⟨g, K * 3 + 1, none⟩ = some (.int .i64 (az[K]'(by omega)).room) ∧ w.cell? ⟨g, K * 3 + 2, none⟩ = some t ∧ U8 (fun b => base ≤ b ∧ b ≠ g) w t (az[K]'(by omega)).text := by
  obtain ⟨xs, ho, ha⟩ := h
  have hlen := ha.length
  rcases ho.2 with ⟨_, h2⟩ | ⟨g, cap, cur, h1, h2, h3, h4⟩
  · omega
  · have h0 := ho
    rw [h1] at h0
    obtain ⟨t, g1, g2, g3, hu⟩ := ha.at K (by omega)
    refine ⟨g, t, by injection h1, (h0.lt g rfl).1, ?_, ?_, ?_, hu.step (Nat.le_refl _) fun b _ hx => ⟨⟨hx.1, fun e => hx.2 (by rw [h1, e]; rfl)⟩, rfl⟩⟩
    · exact (World.ownsRow.cellAt h0 _ (by omega)).trans g1
    · exact (World.ownsRow.cellAt h0 _ (by omega)).trans g2
    · exact (World.ownsRow.cellAt h0 _ (by omega)).trans g3
theorem wpList_appAcN {w : World} {ops : Array Oper} {rest : List Oper} {o : Oper} {a : Act} {Q : Exit → Act → World → Prop} (hgd : o.guard = none) (s x : Operand)
    (ho : o.op = .call { callee := .builtin .append, args := #[s, x], argTypes := #[75, 75] })
    (base : Nat) (v : Value) (acc : List Ac) (kd rm : Int) (q : Value) (us : List Int) (hs : a.eval s = v) (hown : OwnAcN base w v acc) (hq : U8 (fun b => base ≤ b ∧ v.ownBlock ≠ some b) w q us)
    (N : Nat) (hN : w.heap.size = N) (hx : a.eval x = .slice (some ⟨N, 0, none⟩) 1 1) (hsz : acc.length ≤ 2000000) (hbase : base ≤ w.heap.size)
    (h : ∀ v' w', Hid (OwnAcN base w' v' (acc ++ [⟨kd, rm, us⟩])) → Hid (w.grownBy w' v.ownBlock) → Hid (v'.ownBlock = v.ownBlock ∨ ∃ b, v'.ownBlock = some b ∧ w.heap.size ≤ b) → wpList Tryz.prog ops Q rest (a.put o.dst v') w') :
    wpList Tryz.prog ops Q (o :: rest) a (w.alloc (.cells #[.int .i64 kd, .int .i64 rm, q] 81)) := by
  subst hN
  obtain ⟨i0, hi, hz0, hz1, hz2⟩ := info_parts infoact
  obtain ⟨xs, ho1, hx1⟩ := hown
  have hba : Below w.heap.size w (w.alloc (.cells #[.int .i64 kd, .int .i64 rm, q] 81)) := (Below.refl _ _).alloc (Nat.le_refl _) _
  refine wpList_appB _ hgd s x 75 ho base 81 i0 _ 3 40 Tryz.underlying75 hi hz0 hz1 hz2 rfl (by decide) v acc.length xs hs (ho1.alloc _) _ _ 1 1 [.int .i64 kd, .int .i64 rm, q] hx rfl (Rd_new w #[.int .i64 kd, .int .i64 rm, q] _) ?_ (by simp only [maxLen]; omega) (by omega) (by simp; omega) ?_
  · intro u hu; simp at hu; rcases hu with rfl | rfl | rfl
    · rfl
    · rfl
    · exact hq.one
  intro v' w4 hown4 hg4 hv4
  have key : ∀ b, b < w.heap.size → (base ≤ b ∧ v.ownBlock ≠ some b) → (base ≤ b ∧ v'.ownBlock ≠ some b) ∧ w4.heap[b]? = w.heap[b]? := fun b hb hx => by
    refine ⟨⟨hx.1, fun e => ?_⟩, (hg4.block b (by simp; omega) (fun e => hx.2 e.symm)).trans (hba.block b hb)⟩
    rcases hv4 with h1 | h1
    · exact hx.2 (h1.symm.trans e)
    · rw [h1] at e; injection e with e; simp at e; omega
  have hs4 : w.heap.size ≤ w4.heap.size := Nat.le_trans hba.size hg4.size
  refine h v' w4 (Lib.hid ⟨xs ++ [.int .i64 kd, .int .i64 rm, q], by rw [List.length_append]; exact hown4, (hx1.step hs4 key).app ⟨rfl, rfl, hq.step hs4 key, trivial⟩⟩) (Lib.hid ((World.grownBy_alloc w _ v.ownBlock).trans hg4)) (Lib.hid ?_)
  rcases hv4 with h1 | h1
  · exact .inl h1
  · exact .inr ⟨_, h1, by simp⟩
def vlen : Value → Nat
  | .slice _ n _ => n
  | _ => 0
/-- behind the act's beginning -/
def CutA (wr : World) (k r : Int) (N : Nat) (wx : World) : Prop := wr.heap.size ≤ N ∧ Held wx N #[.int .i64 k, .int .i64 r, .slice none 0 0] 81 ∧ Below wr.heap.size wr wx
theorem tail1 (A : Option Addr) (L c : Nat) (h : 1 ≤ L) (hc : L ≤ c) (hm : c ≤ 2 ^ 63 - 1) : ∃ ad, (∀ W : World, (Instr.sliceAt 22 (.slice A L c) (some (.int .i64 1)) none none).run Tryz.prog W = .ok (.slice ad (L - 1) (c - 1)) W) ∧ ad = (if c = 1 then A else A.map (·.add 1)) := tail8 A L c 1 h hc hm
theorem U8.own {base : Nat} {w : World} {v : Value} {zs : List Int} (h : OwnI .u8 5 w base v zs) : U8 (fun b => base ≤ b) w v zs := by
  obtain ⟨A, c, hv, h1, h2⟩ := own_form h
  refine ⟨A, c, hv, h1, h2, ?_⟩
  subst hv
  rcases Rd.own h with h3 | ⟨b, off, g1, g2, g3⟩
  · exact .inl h3
  · refine .inr ⟨b, off, g1, g2, (World.ownsRow.lt h b (by rw [g1]; rfl)).1, g3⟩
theorem cutA_store {wa u : World} {N : Nat} {k r : Int} (hb : Below wa.heap.size wa u) (hN : wa.heap.size ≤ N) (hh : Held u N #[.int .i64 0, .int .i64 0, .slice none 0 0] 81) : CutA wa k r N (u.setCells N 0 [.int .i64 k, .int .i64 r, .slice none 0 0]) ∧ ∀ b, b < wa.heap.size → KeepB b u (u.setCells N 0 [.int .i64 k, .int .i64 r, .slice none 0 0]) := by
  have hg := grown_setCells [.int .i64 k, .int .i64 r, .slice none 0 0] u N 0
  refine ⟨⟨hN, ?_, below_rowT hb hg (fun b e => by injection e with e; omega) hb.size⟩, fun b h => hg.block b (by have := hb.size; omega) (fun e => by injection e with e; omega)⟩
  have := held_setCells [.int .i64 k, .int .i64 r, .slice none 0 0] u N 0 _ _ hh
  rwa [show setAr #[.int .i64 0, .int .i64 0, .slice none 0 0] 0 [.int .i64 k, .int .i64 r, .slice none 0 0] = #[.int .i64 k, .int .i64 r, .slice none 0 0] by simp [setAr]] at this
/-- behind the act's text -/
def CutB (S : Nat) (wr : World) (z : Int) (t : List Int) (N : Nat) (ad : Option Addr) (rest : List Int) (c : Nat) (vt : Value) (tx : List Int) (wx : World) : Prop :=
  (rest.length ≤ c ∧ c ≤ maxLen ∧ rest.length ≤ t.length ∧ ∀ u ∈ rest, 0 ≤ u ∧ u ≤ 255) ∧ Rd wx S ad (rest.map (Value.int .u8)) ∧ actsL (z :: t) = ⟨kd z, 12 + z / 8, tx⟩ :: actsL rest ∧ Held wx N #[.int .i64 (kd z), .int .i64 (12 + z / 8), vt] 81 ∧ U8 (fun b => wr.heap.size ≤ b) wx vt tx ∧ Below wr.heap.size wr wx
set_option maxRecDepth 100000 in
set_option maxHeartbeats 6400000 in
theorem sacts_any (w : World) (n : Nat) (A : Option Addr) (c : Nat) (us : List Int) (B : Nat) (az : List Ac) (hn : us.length = n) (hr : Rd w B A (us.map (Value.int .u8))) (hB : B ≤ w.heap.size) (hc : n ≤ c) (hcm : c ≤ maxLen) (hn9 : n ≤ 1048576) (hb : ∀ u ∈ us, 0 ≤ u ∧ u ≤ 255) (ha : actsL us = az) :
    Calls Tryz.prog 40 #[.slice A n c] w fun e w' => ∃ v, e = .returned v ∧ OwnAcN w.heap.size w' v az ∧ Below w.heap.size w w' := by
  have HN := Lib.hid hn
  have HR := Lib.hid (show Rd w w.heap.size A (us.map (Value.int .u8)) from hr.below (Below.refl B w) hB)
  have HB := Lib.hid hb
  have HA := Lib.hid ha
  have HC := Lib.hid (show n ≤ c ∧ c ≤ maxLen ∧ n ≤ 1048576 from ⟨hc, hcm, hn9⟩)
  clear hn hr hB hb ha hc hcm hn9
  go_enter Tryz.func40, Tryz.ntmps40
  go_wp2_with fail
  go_loopw [0, 3] (fun b l wr => ∃ (rest : List Int) (done : List Ac) (AK : Option Addr) (M cK : Nat), b = .slice AK M cK ∧ Hid (rest.length = M) ∧ Hid (M ≤ cK ∧ cK ≤ maxLen ∧ done.length + M ≤ n) ∧ Hid (∀ u ∈ rest, 0 ≤ u ∧ u ≤ 255) ∧ Hid (Rd wr w.heap.size AK (rest.map (Value.int .u8))) ∧ Hid (OwnAcN w.heap.size wr l done) ∧ Hid (done ++ actsL rest = az) ∧ Hid (Below w.heap.size w wr)) (fun b _ _ => vlen b)
  case atStart => exact ⟨us, [], A, n, c, rfl, HN, Lib.hid ⟨HC.out.1, HC.out.2.1, by simp⟩, HB, HR, Lib.hid (OwnAcN.nil _ _), Lib.hid (by simpa using HA.out), Lib.hid (Below.refl _ _)⟩
  case round =>
    obtain ⟨rest, done, AK, M, cK, rfl, hM, hcK, hru, hrd, ho, hd, hbr⟩ := hrel
    obtain ⟨wa, rfl⟩ : ∃ wa : World, wa = wr := ⟨_, rfl⟩
    match rest, hM with
    | [], hM =>
      have hM0 : M = 0 := hM.out.symm
      subst hM0
      have HE := Lib.hid (show done = az by
        have h1 := hd.out
        rw [actsL_nil, List.append_nil] at h1
        exact h1)
      go_wp2_with fail
      go_ret
      exact ⟨_, rfl, by rw [← HE.out]; exact ho.out, hbr.out⟩
    | z :: t, hM =>
      have hMt : t.length + 1 = M := hM.out
      have hM0 : 0 < M := by omega
      have l0 : (0 : Int) < (M : Int) := by omega
      obtain ⟨b3, o3, rfl, hb3, hc3⟩ := rd_ints hrd.out (by simp)
      have hx : wa.cell? ⟨b3, o3, none⟩ = some (.int .u8 z) := hc3 0 (by simp)
      obtain ⟨hz0, hz1⟩ := hru.out z List.mem_cons_self
      have hbs := hbr.out.size
      obtain ⟨A3, c3, rfl, -, -⟩ := ho.out.form
      have hw64 : IntKind.i64.wrap (z / 8) = z / 8 := by rw [IntKind.wrap_i64]; omega
      have HX := Lib.hid hx
      have HB3 := Lib.hid (show b3 < wa.heap.size by omega)
      have HMT := Lib.hid hMt
      obtain ⟨k, hk⟩ : ∃ k, kd z = k := ⟨_, rfl⟩
      have hkk : 0 ≤ k ∧ k ≤ 2 := by rw [← hk]; unfold kd; split <;> omega
      have HK := Lib.hid hk
      have HW64 := Lib.hid hw64
      clear hc3 hb3 hMt
      go_upto_region 3 with fail
      go_cut [4] from 5 to 33 (fun s4 wx => ∃ N, s4 = .pointer (some ⟨N, 0, none⟩) ∧ Hid (CutA wa k (12 + z / 8) N wx))
      case first =>
        have HNB := Lib.hid hk
        have C1 := Lib.hid (fun W => kind_any W z hz0 hz1)
        rw [hk] at C1
        clear hk hkk
        refine wp_region_fork (G := KeepB b3) (.soft 0 (.soft 1 (.soft 2 (.soft 4 (.soft 5 (.soft 6 (.soft 7 (.soft 8 (.soft 9 (.two 3 11 (.soft 10 (.one 11 (.one 12 .done))) (.one 3 (.soft 10 (.one 12 .done)))))))))))))
          (KeepB.refl _) (KeepB.trans _) (by kernel_rfl) rfl (by kernel_rfl) (by kernel_rfl) ?_
        iterate 2 (refine fork_soft rfl rfl ?_; go_big_quiet_step ((intro _; rfl)); refine wpQuiet_nil ?_)
        refine fork_soft rfl rfl ?_
        go_big_quiet_step ((intro hh; rw [cell_block (b := b3) hh, World.cell?_drew, hx]; exact ⟨rfl, rfl⟩))
        refine wpQuiet_nil ?_
        iterate 2 (refine fork_soft rfl rfl ?_; go_big_quiet_step ((intro _; rfl)); refine wpQuiet_nil ?_)
        refine fork_soft rfl rfl ?_
        go_big_quiet_step ((intro hh; rw [cell_block (b := b3) hh, World.cell?_drew, hx]; exact ⟨rfl, rfl⟩))
        refine wpQuiet_nil ?_
        iterate 3 (refine fork_soft rfl rfl ?_; go_big_quiet_step ((intro _; rfl)); refine wpQuiet_nil ?_)
        refine fork_two rfl rfl ?_ ?_
        · go_wp2_with fail
          refine (C1.out _).mono ?_
          rintro e w1 ⟨rfl, hb1⟩
          have HKB1 := Lib.hid (show KeepB b3 wa.drew w1 from hb1.block b3 HB3.out)
          have HB1 := Lib.hid ((below_drewS wa.heap.size wa 1).trans hb1)
          clear hb1
          go_wp2_with fail
          refine ⟨HKB1.out, ?_⟩
          refine fork_soft rfl rfl ?_
          go_big_quiet_step ((intro _; rfl))
          refine wpQuiet_nil ?_
          refine fork_one rfl ?_
          go_wp2_with fail
          have hb1 := HB1.out
          have hba := below_allocT w1 (.cells #[.int .i64 0, .int .i64 0, .slice none 0 0] 81)
          have hh2 := Held.new w1 #[.int .i64 0, .int .i64 0, .slice none 0 0] 81
          obtain ⟨N, hN⟩ : ∃ N, w1.heap.size = N := ⟨_, rfl⟩
          obtain ⟨W2, hW2⟩ : ∃ W, w1.alloc (.cells #[.int .i64 0, .int .i64 0, .slice none 0 0] 81) = W := ⟨_, rfl⟩
          rw [hW2] at hba hh2 ⊢
          rw [hN] at hh2 ⊢
          have HNL := Lib.hid (show wa.heap.size ≤ N by rw [← hN]; exact hb1.size)
          have HNE := Lib.hid hN
          have HB2 := Lib.hid (hb1.trans (hba.mono hb1.size))
          have HH2 := Lib.hid hh2
          have HTH := Lib.hid (thereS hh2 0 3 (by show 3 ≤ 3; omega))
          have HK2 := Lib.hid (show KeepB b3 w1 W2 from hba.block b3 (Nat.lt_of_lt_of_le HB3.out hb1.size))
          clear hba hh2 hN hW2
          clear hb1
          refine ⟨HK2.out, ?_⟩
          refine fork_one rfl ?_
          go_wp2_with (refine wpList_store_mid rfl _ _ _ rfl N 0 #[.int .i64 k, .int .i64 (12 + z / 8), .slice none 0 0] rfl rfl HTH.out (by kernel_rfl) (by simp [Value.oneCell']) ?_)
          obtain ⟨hcA, hkA⟩ := cutA_store (k := k) (r := 12 + z / 8) HB2.out HNL.out HH2.out
          obtain ⟨W3, hW3⟩ : ∃ W, W2.setCells N 0 [.int .i64 k, .int .i64 (12 + z / 8), .slice none 0 0] = W := ⟨_, rfl⟩
          rw [hW3] at hcA hkA ⊢
          have HCA := Lib.hid hcA
          refine ⟨hkA b3 HB3.out, ?_⟩
          clear hcA hkA hW3
          refine fork_done ?_
          refine NoPanic.normal ?_
          go_wp2_with fail
          go_meet
          exact ⟨N, rfl, HCA⟩
        · go_wp2_with fail
          have hba := (below_allocT wa (.cells #[.int .i64 0, .int .i64 0, .slice none 0 0] 81)).trans (below_drewS _ _ 1)
          have hh2 : Held (wa.alloc (.cells #[.int .i64 0, .int .i64 0, .slice none 0 0] 81)).drew wa.heap.size #[.int .i64 0, .int .i64 0, .slice none 0 0] 81 := Held.new wa #[.int .i64 0, .int .i64 0, .slice none 0 0] 81
          obtain ⟨N, hN⟩ : ∃ N, wa.heap.size = N := ⟨_, rfl⟩
          obtain ⟨W2, hW2⟩ : ∃ W, (wa.alloc (.cells #[.int .i64 0, .int .i64 0, .slice none 0 0] 81)).drew = W := ⟨_, rfl⟩
          have hba' : Below wa.heap.size wa W2 := by rw [← hW2]; exact hba
          rw [hW2] at hh2 ⊢
          rw [hN] at hh2 ⊢
          have HNL := Lib.hid (show wa.heap.size ≤ N by rw [← hN]; exact Nat.le_refl _)
          have HB2 := Lib.hid hba'
          have HH2 := Lib.hid hh2
          have HK2 := Lib.hid (show KeepB b3 wa.drew W2 from hba'.block b3 HB3.out)
          clear hba hba' hh2 hN hW2
          refine ⟨HK2.out, ?_⟩
          refine fork_one rfl ?_
          go_wp2_with fail
          refine (C1.out W2).mono ?_
          rintro e w4 ⟨rfl, hb4⟩
          have HKB4 := Lib.hid (show KeepB b3 W2 w4 from hb4.block b3 (Nat.lt_of_lt_of_le HB3.out HB2.out.size))
          have HB4 := Lib.hid (HB2.out.trans (hb4.mono HB2.out.size))
          have hh4 := HH2.out.below hb4 HH2.out.lt
          have HH4 := Lib.hid hh4
          have HTH4 := Lib.hid (thereS hh4 0 3 (by show 3 ≤ 3; omega))
          clear hb4 hh4
          go_wp2_with fail
          refine ⟨HKB4.out, ?_⟩
          refine fork_soft rfl rfl ?_
          go_big_quiet_step ((intro _; rfl))
          refine wpQuiet_nil ?_
          refine fork_one rfl ?_
          go_wp2_with (refine wpList_store_mid rfl _ _ _ rfl N 0 #[.int .i64 k, .int .i64 (12 + z / 8), .slice none 0 0] rfl rfl HTH4.out (by kernel_rfl) (by simp [Value.oneCell']) ?_)
          obtain ⟨hcA, hkA⟩ := cutA_store (k := k) (r := 12 + z / 8) HB4.out HNL.out HH4.out
          obtain ⟨W3, hW3⟩ : ∃ W, w4.setCells N 0 [.int .i64 k, .int .i64 (12 + z / 8), .slice none 0 0] = W := ⟨_, rfl⟩
          rw [hW3] at hcA hkA ⊢
          have HCA := Lib.hid hcA
          refine ⟨hkA b3 HB3.out, ?_⟩
          clear hcA hkA hW3
          refine fork_done ?_
          refine NoPanic.normal ?_
          go_wp2_with fail
          go_meet
          exact ⟨N, rfl, HCA⟩
      case rest =>
        obtain ⟨wA, rfl⟩ : ∃ wA, wA = wc := ⟨_, rfl⟩
        obtain ⟨N, rfl, hcA⟩ := hcut
        have hMt := HMT.out
        obtain ⟨hNL, hHA, hbA⟩ := hcA.out
        have hrl : Rd wA w.heap.size (some ⟨b3, o3, none⟩) ((z :: t).map (Value.int .u8)) := hrd.out.below (hbA.mono hbs) (Nat.le_refl _)
        obtain ⟨ad, hs1, had⟩ := tail1 (some ⟨b3, o3, none⟩) M cK hM0 hcK.out.1 (by have := hcK.out.2.1; unfold maxLen at this; omega)
        have hrt : Rd wA w.heap.size ad (t.map (Value.int .u8)) := by
          rw [had]
          exact rd_drop hrl 1 (c := cK) (by have := hcK.out.1; simp; omega)
        rw [show M - 1 = t.length by omega] at hs1
        obtain ⟨L, hL⟩ : ∃ L, t.length = L := ⟨_, rfl⟩
        obtain ⟨c1, hc1⟩ : ∃ c1, cK - 1 = c1 := ⟨_, rfl⟩
        rw [hL, hc1] at hs1
        have n0 := hHA.cell 0
        have n1 := hHA.cell 1
        have n2 := hHA.cell 2
        have g0 := hHA.frozen 0
        have g1 := hHA.frozen 1
        have g2 := hHA.frozen 2
        have HHA := Lib.hid hHA
        have HNL := Lib.hid hNL
        have HBA := Lib.hid hbA
        have HRT := Lib.hid hrt
        have HL := Lib.hid hL
        have HC1 := Lib.hid (show L ≤ c1 ∧ c1 ≤ maxLen by have := hcK.out; omega)
        have HBS := Lib.hid hbs
        clear hcA hHA hNL hbA hrl had hrt hL hc1 hbs hMt
        go_upto_if 23 with fail
        go_cut [0] from 5 to 33 (fun s0 wx => ∃ rest2 ad2 M2 c2 vt tx, s0 = .slice ad2 M2 c2 ∧ Hid (rest2.length = M2) ∧ Hid (CutB w.heap.size wa z t N ad2 rest2 c2 vt tx wx))
        case first =>
          by_cases hf : z % 8 > 5
          · have hk5 : kd z = z % 8 - 5 := if_pos hf
            have dk : (k == 0) = false := by rw [← hk, hk5]; simp; omega
            have HE := Lib.hid (show CutB w.heap.size wa z t N ad t c1 (.slice none 0 0) [] wA from ⟨⟨by rw [HL.out]; exact HC1.out.1, HC1.out.2, Nat.le_refl _, fun u hu => hru.out u (List.mem_cons_of_mem _ hu)⟩, HRT.out, by rw [hk5]; exact actsL_far hf, by rw [hk]; exact HHA.out, ⟨none, 0, rfl, Nat.le_refl _, by simp [maxLen], .inl rfl⟩, HBA.out⟩)
            clear hk hkk hk5 hf
            go_wp2_with fail
            go_meet
            exact ⟨t, ad, L, c1, _, _, rfl, HL, HE⟩
          · have hk0 : kd z = 0 := if_neg hf
            have hkz : k = 0 := by rw [← hk, hk0]
            subst hkz
            clear hkk
            have HF := Lib.hid hf
            have HK0 := Lib.hid hk0
            clear hk hf hk0
            rcases t with _ | ⟨y, t2⟩
            · obtain rfl : L = 0 := HL.out.symm
              go_wp2_with fail
              refine (text0_any wA ad c1).mono ?_
              rintro e w1 ⟨rfl, hb1⟩
              have hh1 := HHA.out.below hb1 HHA.out.lt
              have n2' := hh1.cell 2
              have g2' := hh1.frozen 2
              have HH1 := Lib.hid hh1
              have HB1 := Lib.hid (HBA.out.trans (hb1.mono HBA.out.size))
              clear hb1 hh1
              go_wp2_with fail
              go_meet
              refine ⟨[], none, 0, 0, .slice none 0 0, [], rfl, Lib.hid rfl, Lib.hid ⟨⟨Nat.le_refl _, by simp [maxLen], Nat.le_refl _, fun u hu => (by cases hu)⟩, .inl rfl, by rw [HK0.out]; exact actsL_one (by have := HF.out; omega), by rw [HK0.out]; exact heldS w1 N 2 _ _ (.slice none 0 0) HH1.out, ⟨none, 0, rfl, Nat.le_refl _, by simp [maxLen], .inl rfl⟩, HB1.out.setCell (p := ⟨N, 2, none⟩) HNL.out _⟩⟩
            · have hy := hru.out y (by simp)
              have hmM := hM.out
              have hM9 : L ≤ 1048576 := by have h1 := hcK.out.2.2; have h2 := HC.out.2.2; have h3 := HMT.out; have h4 := HL.out; omega
              obtain ⟨m, hm⟩ : ∃ m, textN y t2 = m := ⟨_, rfl⟩
              have hmL : m ≤ t2.length := by rw [← hm]; unfold textN; omega
              have HMS := Lib.hid hmL
              have HTX := Lib.hid hm
              have HT2 := Lib.hid (show t2.length + 1 = L from HL.out)
              have C2 := Lib.hid (text_any wA L ad c1 y t2 w.heap.size m HT2.out HRT.out (Nat.le_trans HBS.out HBA.out.size) HC1.out.1 HC1.out.2 hM9 hy.1 hy.2 hm)
              have HRU := Lib.hid (show ∀ u ∈ t2.drop m, 0 ≤ u ∧ u ≤ 255 from fun u hu => hru.out u (List.mem_cons_of_mem _ (List.mem_cons_of_mem _ (List.mem_of_mem_drop hu))))
              obtain ⟨M2, hM2⟩ : ∃ x, L - (1 + m) = x := ⟨_, rfl⟩
              obtain ⟨c2, hc2⟩ : ∃ x, c1 - (1 + m) = x := ⟨_, rfl⟩
              rw [hM2, hc2] at C2
              have HM2 := Lib.hid (show (t2.drop m).length = M2 by rw [List.length_drop]; have := HT2.out; omega)
              have HC2 := Lib.hid (show M2 ≤ c2 ∧ c2 ≤ maxLen ∧ M2 ≤ t2.length + 1 by have := HC1.out; have := HT2.out; omega)
              clear hy hmM hM9 hm hmL hM2 hc2
              go_wp2_with fail
              refine C2.out.mono ?_
              rintro e w1 ⟨v, ad3, rfl, hov, hr3, hb1⟩
              have hh1 := HHA.out.below hb1 HHA.out.lt
              have n2' := hh1.cell 2
              have g2' := hh1.frozen 2
              have HH1 := Lib.hid hh1
              have HB1 := Lib.hid (HBA.out.trans (hb1.mono HBA.out.size))
              have HU1 := Lib.hid (show U8 (fun b => wa.heap.size ≤ b) (w1.setCell ⟨N, 2, none⟩ v) v (t2.take m) from (U8.own hov).step (by rw [World.size_setCell]; exact Nat.le_refl _) fun b hl hx => ⟨Nat.le_trans HBA.out.size hx, Below.heap_setCell w1 ⟨N, 2, none⟩ v b (fun e => by have := HHA.out.lt; have e2 : b = N := e; omega)⟩)
              have HR3 := Lib.hid (show Rd (w1.setCell ⟨N, 2, none⟩ v) w.heap.size ad3 ((t2.drop m).map (Value.int .u8)) from hr3.below ((hb1.mono (Nat.le_trans HBS.out HBA.out.size)).setCell (p := ⟨N, 2, none⟩) (Nat.le_trans HBS.out HNL.out) v) (Nat.le_refl _))
              obtain ⟨Av, cv, hv, -, -⟩ := own_form hov
              obtain ⟨nv, hnv⟩ : ∃ x, (t2.take m).length = x := ⟨_, rfl⟩
              rw [hnv] at hv
              subst hv
              clear hb1 hh1 hov hr3 C2 hnv
              go_wp2_with fail
              go_meet
              refine ⟨t2.drop m, ad3, M2, c2, _, t2.take m, rfl, HM2, Lib.hid ⟨⟨by rw [HM2.out]; exact HC2.out.1, HC2.out.2.1, by rw [HM2.out]; exact HC2.out.2.2, HRU.out⟩, HR3.out, by rw [HK0.out, ← HTX.out]; exact actsL_text (by have := HF.out; omega), by rw [HK0.out]; exact heldS w1 N 2 _ _ _ HH1.out, HU1.out, HB1.out.setCell (p := ⟨N, 2, none⟩) HNL.out _⟩⟩
        case rest =>
          obtain ⟨wB, rfl⟩ : ∃ wB, wB = wc := ⟨_, rfl⟩
          obtain ⟨rest2, ad2, M2, c2, vt, tx, rfl, hM2, hcb⟩ := hcut
          obtain ⟨⟨q1, q2, q3, q4⟩, hr2, hac, hh2, hu2, hb2⟩ := hcb.out
          rw [hk] at hac hh2
          rw [hM2.out] at q1 q3
          have HDN := Lib.hid (show (done ++ [⟨k, 12 + z / 8, tx⟩]) ++ actsL rest2 = az by rw [← hd.out, hac]; simp)
          have HO1 := Lib.hid (ho.out.below hb2)
          have hol : ∀ b, (Value.slice A3 done.length c3).ownBlock = some b → w.heap.size ≤ b ∧ b < wa.heap.size := fun b e => by obtain ⟨xs, h1, _⟩ := ho.out; exact h1.lt b e
          have HOL := Lib.hid hol
          have HU1 := Lib.hid (show U8 (fun b => w.heap.size ≤ b ∧ (Value.slice A3 done.length c3).ownBlock ≠ some b) wB vt tx from hu2.step (Nat.le_refl _) fun b _ hx => ⟨⟨Nat.le_trans HBS.out hx, fun e => by have := (hol b e).2; omega⟩, rfl⟩)
          have HBB := Lib.hid (hbr.out.trans (hb2.mono HBS.out))
          have HSS := Lib.hid (show w.heap.size ≤ wB.heap.size from Nat.le_trans HBS.out hb2.size)
          have HR2 := Lib.hid hr2
          have HQ := Lib.hid (show M2 ≤ c2 ∧ c2 ≤ maxLen ∧ M2 ≤ t.length ∧ ∀ u ∈ rest2, 0 ≤ u ∧ u ≤ 255 from ⟨q1, q2, q3, q4⟩)
          obtain ⟨At, ct, hvt, -⟩ := hu2
          obtain ⟨lt, hlt⟩ : ∃ x, tx.length = x := ⟨_, rfl⟩
          rw [hlt] at hvt
          subst hvt
          have y0 := hh2.cell 0
          have y1 := hh2.cell 1
          have y2 := hh2.cell 2
          clear hk hkk hcb q1 q2 q3 q4 hr2 hac hh2 hb2 hol hlt
          go_wp2_with (at_builtin; refine wpList_appAcN rfl _ _ rfl w.heap.size (.slice A3 done.length c3) done k (12 + z / 8) (.slice At lt ct) tx rfl HO1.out HU1.out _ rfl rfl (by have h1 := hcK.out.2.2; have h2 := HC.out.2.2; omega) HSS.out ?_)
          intro v4 w4 hO4 hG4 hV4
          have HB4 := Lib.hid (below_rowT HBB.out hG4.out (fun b e => (HOL.out b e).1) HSS.out)
          have HR4 := Lib.hid (show Rd w4 w.heap.size ad2 (rest2.map (Value.int .u8)) from by
            rcases HR2.out with h | ⟨b, off, h1, h2, h3⟩
            · exact .inl h
            · refine .inr ⟨b, off, h1, h2, fun j hj => ?_⟩
              rw [cell_block (w := wB) (hG4.out.block b (by have := HSS.out; omega) (fun e => by have := (HOL.out b e.symm).1; omega))]
              exact h3 j hj)
          clear hG4 hV4
          go_wp2_with fail
          go_roundw
          case rel => exact ⟨rest2, done ++ [⟨k, 12 + z / 8, tx⟩], ad2, M2, c2, rfl, hM2, Lib.hid (by have h1 := HQ.out; have h2 := hcK.out; have h3 := HMT.out; refine ⟨h1.1, h1.2.1, ?_⟩; simp; omega), Lib.hid HQ.out.2.2.2, HR4, hO4, HDN, HB4⟩
          case measure => have h1 := HQ.out; have h3 := HMT.out; show M2 < M; omega
end Go.Proofs.YtncpokioagpclaaGreatDoor
namespace Go.Proofs.YtncpokioagpclaaGreatDoor
set_option linter.unusedVariables false
set_option linter.unusedSimpArgs false
set_option linter.unnecessarySimpa false
open Go.RowKit Go.Lib
theorem mid_row {w w' : World} {v : Value} (h : w.grownBy w' v.ownBlock) : Mid (fun b => v.ownBlock = some b) w w' := ⟨h.os, h.tape, h.output, h.size, fun k hk hx => h.block k hk (fun e => hx e.symm)⟩
theorem mid_set (w : World) (p : Addr) (v : Value) : Mid (fun b => b = p.block) w (w.setCell p v) := Mid.by (grownBy_setCellK w p v) rfl
/-- a report's block -/
abbrev RpC (vO : Value) (u : Int) (vT : Value) (f : Flt) : Array Value := #[vO, .int .i64 u, vT, .int .i64 f.side, .int .i64 f.at_, .int .i64 f.err]
theorem StS.held {k1 k2 : Nat} {pol : Int} {G F : Nat → Prop} {w : World} {q : Nat} {s : SSt} (h : StS k1 k2 pol G F w q s) : G q ∧ ∃ s1 s2 Vr Vw vo st, Held w q (StC s1 s2 pol Vr Vw vo s.f st) 129 := by
  obtain ⟨p0, p2, s1, s2, pd, p, S, vo, GD, FD, GE, FE, h, rfl, rfl⟩ := h
  exact ⟨.inl (.inl rfl), _, _, _, _, _, _, h.e.box⟩
set_option maxRecDepth 100000 in
set_option maxHeartbeats 6400000 in
theorem addF_any {k1 k2 : Nat} {pol : Int} {pd : Nat} {G F : Nat → Prop} {w : World} {q R BO : Nat} {s : SSt} (vO vT : Value) (o : List Int) (u : Int) (n : Nat) (A : Option Addr) (c : Nat) (us : List Int) (room : Int) (out : List Int) (used err : Int) (s' : SSt)
    (h : StSP k1 k2 pol pd G F w q s) (h1 : k1 ≤ 6) (h2 : k2 ≤ 6) (hn : us.length = n) (hr : Rdx (fun b => ¬ G b) w A (us.map (Value.int .u8))) (hn9 : n ≤ 1000) (hb : ∀ u ∈ us, 0 ≤ u ∧ u ≤ 255) (hda : s.d.a ≤ 1000) (hea : s.e.a ≤ 1000) (hol : s.o.length ≤ 100000) (hf : feedS k1 k2 pol room s us = (out, used, err, s'))
    (hR : Held w R (RpC vO u vT F0) 146) (hFR : ¬ F R) (hpR : pd < R) (ho : OwnI .u8 5 w BO vO o) (hoF : ∀ b, vO.ownBlock = some b → ¬ F b ∧ pd < b ∧ b ≠ R) (hBO : BO ≤ w.heap.size) (hRB : R < BO) (hsz : o.length + out.length ≤ 100000) (hu0 : 0 ≤ u) (hu1 : u ≤ 100000) (hd0 : 0 ≤ used) (hd1 : used ≤ 100000) :
    Calls Tryz.prog 136 #[.pointer (some ⟨R, 0, none⟩), .pointer (some ⟨q, 0, none⟩), .agg #[.int .i64 0, .int .i64 room, .slice A n c]] w fun e w' => ∃ vO' G' F', e = .returned (.int .i64 err) ∧ Held w' R (RpC vO' (u + used) vT F0) 146 ∧ OwnI .u8 5 w' BO vO' (o ++ out) ∧ (vO'.ownBlock = vO.ownBlock ∨ ∃ b, vO'.ownBlock = some b ∧ w.heap.size ≤ b ∧ ¬ F' b) ∧ StSP k1 k2 pol pd G' F' w' q s' ∧ (∀ b, F' b → F b ∨ b ≤ pd ∨ w.heap.size ≤ b) ∧ (∀ b, G' b → G b ∨ w.heap.size ≤ b) ∧ Mid (fun b => G b ∨ b = R ∨ vO.ownBlock = some b) w w' := by
  suffices key : ∀ P : Ending → World → Prop, (∀ e w', (∃ vO' G' F', e = .returned (.int .i64 err) ∧ Held w' R (RpC vO' (u + used) vT F0) 146 ∧ OwnI .u8 5 w' BO vO' (o ++ out) ∧ (vO'.ownBlock = vO.ownBlock ∨ ∃ b, vO'.ownBlock = some b ∧ w.heap.size ≤ b ∧ ¬ F' b) ∧ StSP k1 k2 pol pd G' F' w' q s' ∧ (∀ b, F' b → F b ∨ b ≤ pd ∨ w.heap.size ≤ b) ∧ (∀ b, G' b → G b ∨ w.heap.size ≤ b) ∧ Mid (fun b => G b ∨ b = R ∨ vO.ownBlock = some b) w w') → P e w') → Calls Tryz.prog 136 #[.pointer (some ⟨R, 0, none⟩), .pointer (some ⟨q, 0, none⟩), .agg #[.int .i64 0, .int .i64 room, .slice A n c]] w fun e w' => P e w' from key _ fun _ _ h => h
  intro P hP
  have hft := h.to.foot
  have hba := below_allocT w (.cells #[.int .i64 0, .int .i64 room, .slice A n c] 81)
  have hn2 := Held.new w #[.int .i64 0, .int .i64 room, .slice A n c] 81
  have hsa : (w.alloc (.cells #[.int .i64 0, .int .i64 room, .slice A n c] 81)).heap.size = w.heap.size + 1 := by simp
  obtain ⟨N, hN⟩ : ∃ N, w.heap.size = N := ⟨_, rfl⟩
  obtain ⟨W, hW⟩ : ∃ W, w.alloc (.cells #[.int .i64 0, .int .i64 room, .slice A n c] 81) = W := ⟨_, rfl⟩
  rw [hW] at hba hn2 hsa
  rw [hN] at hn2
  have hst := h.stay hba.size fun b hx => hba.block b (hft.2 b hx)
  have hrw := hr.step (Y := fun b => ¬ G b) hba.size fun b hl hx => ⟨hx, hba.block b hl⟩
  have hRw := hR.below hba hR.lt
  have hoW : OwnI .u8 5 W BO vO o := own_below ho hba (Nat.le_refl _)
  have C1 := Lib.hid (sfeedP_any n A c us room out used err s' hst h1 h2 hn hrw hn9 hb hda hea hol hf)
  have HPP := Lib.hid hP
  have HFT := Lib.hid hft
  have HBA := Lib.hid hba
  have HSA := Lib.hid hsa
  have HNW := Lib.hid hN
  have HW := Lib.hid hW
  have HRW := Lib.hid hRw
  have HOW := Lib.hid hoW
  have HFR := Lib.hid (And.intro hFR hpR)
  have HOF := Lib.hid hoF
  have HBO := Lib.hid hBO
  have HRB := Lib.hid hRB
  have HSZ := Lib.hid hsz
  have HRL := Lib.hid hR.lt
  have hol2 : ∀ b, vO.ownBlock = some b → b < w.heap.size := fun b e => (World.ownsRow.lt ho b e).2
  have HOL := Lib.hid hol2
  obtain ⟨AO, cO, hvO, -, -⟩ := own_form ho
  obtain ⟨nO, hnO⟩ : ∃ x, o.length = x := ⟨_, rfl⟩
  rw [hnO] at hvO
  have y0 := hn2.cell 0
  have y1 := hn2.cell 1
  have y2 := hn2.cell 2
  obtain ⟨no, hno⟩ : ∃ x, out.length = x := ⟨_, rfl⟩
  rw [hno] at C1
  have HNO := Lib.hid hno
  clear h hr hR hFR hpR ho hoF hBO hRB hsz hft hba hn2 hsa hN hW hst hrw hRw hoW hP hn hn9 hb hda hea hol hf hol2 hnO hno
  subst hvO
  go_enter Tryz.func136, Tryz.ntmps136
  go_wp2_with fail
  rw [HW.out, HNW.out]
  refine C1.out.mono ?_
  rintro e w1 ⟨A1, c1, G1, F1, rfl, hr1, hs1, hF1, hG1, hm1⟩
  have hRg : ¬ G R := fun hx => HFR.out.1 (HFT.out.1 R hx)
  have hR1 : Held w1 R (RpC (.slice AO nO cO) u vT F0) 146 := (hm1.block R (by have := HRL.out; have := HSA.out; omega) hRg).trans HRW.out
  have ho1 : OwnI .u8 5 w1 BO (.slice AO nO cO) o := own_mid HOW.out hm1 fun b e hx => (HOF.out b e).1 (HFT.out.1 b hx)
  have hsz1 := hm1.size
  have hft1 := hs1.to.foot
  have HR1 := Lib.hid hR1
  have HO1 := Lib.hid ho1
  have HS1 := Lib.hid hs1
  have HM1 := Lib.hid hm1
  have HF1 := Lib.hid hF1
  have HG1 := Lib.hid hG1
  have HT1 := Lib.hid hft1
  have HRD1 := Lib.hid (rdx_rd hr1)
  have HZ1 := Lib.hid (show w.heap.size ≤ w1.heap.size by have := HSA.out; omega)
  have x0 := hR1.cell 0
  have x1 := hR1.cell 1
  have g0 := hR1.frozen 0
  have g1 := hR1.frozen 1
  clear hr1 hs1 hF1 hG1 hm1 hRg hR1 ho1 hsz1 hft1 C1
  go_wp2_with (at_builtin; refine wpList_appU8 rfl _ _ rfl BO (.slice AO nO cO) o rfl HO1.out A1 no c1 out rfl HNO.out.symm _ HRD1.out (by have := HSZ.out; omega) (Nat.le_trans HBO.out HZ1.out) ?_)
  intro v4 w4 hO4 hG4 hV4
  obtain ⟨A4, c4, hv44, -, -⟩ := own_form hO4.out
  obtain ⟨n4, hn4⟩ : ∃ x, (o ++ out).length = x := ⟨_, rfl⟩
  rw [hn4] at hv44
  subst hv44
  clear hn4
  have hR4 : Held w4 R (RpC (.slice AO nO cO) u vT F0) 146 := HR1.out.kept hG4.out fun e => (HOF.out R e.symm).2.2 rfl
  have x0' := hR4.cell 0
  have x1' := hR4.cell 1
  have g0' := hR4.frozen 0
  have g1' := hR4.frozen 1
  have HR4 := Lib.hid hR4
  have hv4 : (Value.slice A4 n4 c4).ownBlock ≠ some R := fun e => by
    rcases hV4.out with h3 | ⟨b, h3, h4⟩
    · rw [h3] at e; exact (HOF.out R e).2.2 rfl
    · rw [h3] at e; injection e with e; have := HRL.out; have := HZ1.out; omega
  have HVR := Lib.hid hv4
  have hw4 : IntKind.i64.wrap (u + used) = u + used := by rw [IntKind.wrap_i64]; omega
  have hw5 : wrap64 (u + used) = u + used := by unfold wrap64; omega
  clear hR4 hv4 x0 x1 g0 g1
  go_wp2_with fail
  refine HPP.out _ _ ⟨.slice A4 n4 c4, G1, F1, rfl, ?_, ?_, ?_, ?_, ?_, ?_, ?_⟩
  · exact heldS _ _ 1 _ _ (.int .i64 (u + used)) (heldS _ _ 0 _ _ (.slice A4 n4 c4) HR4.out)
  · exact own_kept (own_kept hO4.out (grownBy_setCellK _ ⟨R, 0, none⟩ _) HRB.out) (grownBy_setCellK _ ⟨R, 1, none⟩ _) HRB.out
  · rcases hV4.out with h3 | ⟨b, h3, h4⟩
    · exact .inl h3
    · exact .inr ⟨b, h3, Nat.le_trans HZ1.out h4, fun hx => by have := HT1.out.2 b hx; omega⟩
  · refine HS1.out.stay (by rw [World.size_setCell, World.size_setCell]; exact hG4.out.size) fun b hx => ?_
    have hbR : b ≠ R := fun e => by
      subst e
      rcases HF1.out b hx with h3 | h3 | h3
      · exact HFR.out.1 h3
      · have := HFR.out.2; omega
      · have := HRL.out; have := HSA.out; omega
    refine (Below.heap_setCell _ ⟨R, 1, none⟩ _ b hbR).trans ((Below.heap_setCell _ ⟨R, 0, none⟩ _ b hbR).trans (hG4.out.block b (HT1.out.2 b hx) fun e => ?_))
    rcases HF1.out b hx with h3 | h3 | h3
    · exact (HOF.out b e.symm).1 h3
    · have := (HOF.out b e.symm).2.1; omega
    · have := HOL.out b e.symm; have := HSA.out; omega
  · intro b hx
    rcases HF1.out b hx with h3 | h3 | h3
    · exact .inl h3
    · exact .inr (.inl h3)
    · exact .inr (.inr (by have := HSA.out; omega))
  · intro b hx
    rcases HG1.out b hx with h3 | h3
    · exact .inl h3
    · exact .inr (by have := HSA.out; omega)
  · have m1 : Mid (fun b => G b ∨ b = R ∨ (Value.slice AO nO cO).ownBlock = some b) w W := Mid.of HBA.out
    have m2 := m1.then HM1.out fun b hx => .inl (.inl hx)
    have m3 := m2.then (mid_row hG4.out) fun b hx => .inl (.inr (.inr hx))
    have m4 := m3.then (mid_set w4 ⟨R, 0, none⟩ (.slice A4 n4 c4)) fun b hx => .inl (.inr (.inl hx))
    exact m4.then (mid_set _ ⟨R, 1, none⟩ _) fun b hx => .inl (.inr (.inl hx))
set_option maxRecDepth 100000 in
set_option maxHeartbeats 6400000 in
theorem addL_any {k1 k2 : Nat} {pol : Int} {G F : Nat → Prop} {w : World} {q R BO : Nat} {s : SSt} (vO vT : Value) (o : List Int) (u : Int) (n : Nat) (A : Option Addr) (c : Nat) (room : Int) (out : List Int) (err : Int) (s' : SSt)
    (h : StS k1 k2 pol G F w q s) (h1 : k1 ≤ 6) (h2 : k2 ≤ 6) (hda : s.d.a ≤ 1000) (hea : s.e.a ≤ 1000) (hol : s.o.length ≤ 100000) (hf : flushS k1 k2 pol room s = (out, err, s'))
    (hR : Held w R (RpC vO u vT F0) 146) (hFR : ¬ F R) (ho : OwnI .u8 5 w BO vO o) (hoF : ∀ b, vO.ownBlock = some b → ¬ F b ∧ b ≠ R) (hBO : BO ≤ w.heap.size) (hRB : R < BO) (hsz : o.length + out.length ≤ 100000) (hu0 : 0 ≤ u) (hu1 : u ≤ 100000) :
    Calls Tryz.prog 136 #[.pointer (some ⟨R, 0, none⟩), .pointer (some ⟨q, 0, none⟩), .agg #[.int .i64 1, .int .i64 room, .slice A n c]] w fun e w' => ∃ vO', e = .returned (.int .i64 err) ∧ Held w' R (RpC vO' u vT F0) 146 ∧ OwnI .u8 5 w' BO vO' (o ++ out) ∧ (vO'.ownBlock = vO.ownBlock ∨ ∃ b, vO'.ownBlock = some b ∧ w.heap.size ≤ b) ∧ (∃ s1 s2 Vr Vw vo st, Held w' q (StC s1 s2 pol Vr Vw vo s'.f st) 129) ∧ Mid (fun b => G b ∨ b = R ∨ vO.ownBlock = some b) w w' := by
  suffices key : ∀ P : Ending → World → Prop, (∀ e w', (∃ vO', e = .returned (.int .i64 err) ∧ Held w' R (RpC vO' u vT F0) 146 ∧ OwnI .u8 5 w' BO vO' (o ++ out) ∧ (vO'.ownBlock = vO.ownBlock ∨ ∃ b, vO'.ownBlock = some b ∧ w.heap.size ≤ b) ∧ (∃ s1 s2 Vr Vw vo st, Held w' q (StC s1 s2 pol Vr Vw vo s'.f st) 129) ∧ Mid (fun b => G b ∨ b = R ∨ vO.ownBlock = some b) w w') → P e w') → Calls Tryz.prog 136 #[.pointer (some ⟨R, 0, none⟩), .pointer (some ⟨q, 0, none⟩), .agg #[.int .i64 1, .int .i64 room, .slice A n c]] w fun e w' => P e w' from key _ fun _ _ h => h
  intro P hP
  have hft := h.foot
  have hba := below_allocT w (.cells #[.int .i64 1, .int .i64 room, .slice A n c] 81)
  have hn2 := Held.new w #[.int .i64 1, .int .i64 room, .slice A n c] 81
  have hsa : (w.alloc (.cells #[.int .i64 1, .int .i64 room, .slice A n c] 81)).heap.size = w.heap.size + 1 := by simp
  obtain ⟨N, hN⟩ : ∃ N, w.heap.size = N := ⟨_, rfl⟩
  obtain ⟨W, hW⟩ : ∃ W, w.alloc (.cells #[.int .i64 1, .int .i64 room, .slice A n c] 81) = W := ⟨_, rfl⟩
  rw [hW] at hba hn2 hsa
  rw [hN] at hn2
  have hst := h.stay hba.size fun b hx => hba.block b (hft.2 b hx)
  have hRw := hR.below hba hR.lt
  have hoW : OwnI .u8 5 W BO vO o := own_below ho hba (Nat.le_refl _)
  have C1 := Lib.hid (sflush_any room out err s' hst h1 h2 hda hea hol hf)
  have HPP := Lib.hid hP
  have HST := Lib.hid h
  have HFT := Lib.hid hft
  have HBA := Lib.hid hba
  have HSA := Lib.hid hsa
  have HNW := Lib.hid hN
  have HW := Lib.hid hW
  have HRW := Lib.hid hRw
  have HOW := Lib.hid hoW
  have HFR := Lib.hid hFR
  have HOF := Lib.hid hoF
  have HBO := Lib.hid hBO
  have HRB := Lib.hid hRB
  have HSZ := Lib.hid hsz
  have HRL := Lib.hid hR.lt
  have hol2 : ∀ b, vO.ownBlock = some b → b < w.heap.size := fun b e => (World.ownsRow.lt ho b e).2
  have HOL := Lib.hid hol2
  obtain ⟨AO, cO, hvO, -, -⟩ := own_form ho
  obtain ⟨nO, hnO⟩ : ∃ x, o.length = x := ⟨_, rfl⟩
  rw [hnO] at hvO
  have y0 := hn2.cell 0
  have y1 := hn2.cell 1
  have y2 := hn2.cell 2
  obtain ⟨no, hno⟩ : ∃ x, out.length = x := ⟨_, rfl⟩
  rw [hno] at C1
  have HNO := Lib.hid hno
  clear h hR hFR ho hoF hBO hRB hsz hft hba hn2 hsa hN hW hst hRw hoW hP hda hea hol hf hol2 hnO hno
  subst hvO
  go_enter Tryz.func136, Tryz.ntmps136
  go_wp2_with fail
  rw [HW.out, HNW.out]
  refine C1.out.mono ?_
  rintro e w1 ⟨A1, c1, G1, F1, rfl, hr1, hs1, hG1, hm1⟩
  have hRg : ¬ G R := fun hx => HFR.out (HFT.out.1 R hx)
  have hR1 : Held w1 R (RpC (.slice AO nO cO) u vT F0) 146 := (hm1.block R (by have := HRL.out; have := HSA.out; omega) hRg).trans HRW.out
  have ho1 : OwnI .u8 5 w1 BO (.slice AO nO cO) o := own_mid HOW.out hm1 fun b e hx => (HOF.out b e).1 (HFT.out.1 b hx)
  have hsz1 := hm1.size
  have hft1 := hs1.foot
  obtain ⟨hgq1, s11, s12, Vr1, Vw1, vo1, st1, hhq1⟩ := hs1.held
  have HHQ1 := Lib.hid hhq1
  have HFQ1 := Lib.hid (show q ≠ R ∧ ∀ b, (Value.slice AO nO cO).ownBlock = some b → b ≠ q from by
    have hq0 : G q := HST.out.held.1
    exact ⟨fun e => HFR.out (HFT.out.1 R (e ▸ hq0)), fun b e e2 => (HOF.out b e).1 (HFT.out.1 b (e2 ▸ hq0))⟩)
  have HR1 := Lib.hid hR1
  have HO1 := Lib.hid ho1
  have HS1 := Lib.hid hs1
  have HM1 := Lib.hid hm1
  have HG1 := Lib.hid hG1
  have HT1 := Lib.hid hft1
  have HRD1 := Lib.hid (rdx_rd hr1)
  have HZ1 := Lib.hid (show w.heap.size ≤ w1.heap.size by have := HSA.out; omega)
  have x0 := hR1.cell 0
  have x1 := hR1.cell 1
  have g0 := hR1.frozen 0
  have g1 := hR1.frozen 1
  clear hr1 hs1 hG1 hm1 hgq1 hhq1 hRg hR1 ho1 hsz1 hft1 C1
  go_wp2_with (at_builtin; refine wpList_appU8 rfl _ _ rfl BO (.slice AO nO cO) o rfl HO1.out A1 no c1 out rfl HNO.out.symm _ HRD1.out (by have := HSZ.out; omega) (Nat.le_trans HBO.out HZ1.out) ?_)
  intro v4 w4 hO4 hG4 hV4
  obtain ⟨A4, c4, hv44, -, -⟩ := own_form hO4.out
  obtain ⟨n4, hn4⟩ : ∃ x, (o ++ out).length = x := ⟨_, rfl⟩
  rw [hn4] at hv44
  subst hv44
  clear hn4
  have hR4 : Held w4 R (RpC (.slice AO nO cO) u vT F0) 146 := HR1.out.kept hG4.out fun e => (HOF.out R e.symm).2 rfl
  have x0' := hR4.cell 0
  have x1' := hR4.cell 1
  have g0' := hR4.frozen 0
  have g1' := hR4.frozen 1
  have HR4 := Lib.hid hR4
  have hv4 : (Value.slice A4 n4 c4).ownBlock ≠ some R := fun e => by
    rcases hV4.out with h3 | ⟨b, h3, h4⟩
    · rw [h3] at e; exact (HOF.out R e).2 rfl
    · rw [h3] at e; injection e with e; have := HRL.out; have := HZ1.out; omega
  have HVR := Lib.hid hv4
  have hw4 : IntKind.i64.wrap u = u := by rw [IntKind.wrap_i64]; omega
  have hw5 : wrap64 u = u := by unfold wrap64; omega
  clear hR4 hv4 x0 x1 g0 g1
  go_wp2_with fail
  refine HPP.out _ _ ⟨.slice A4 n4 c4, rfl, ?_, ?_, ?_, ?_, ?_⟩
  · exact heldS _ _ 1 _ _ (.int .i64 u) (heldS _ _ 0 _ _ (.slice A4 n4 c4) HR4.out)
  · exact own_kept (own_kept hO4.out (grownBy_setCellK _ ⟨R, 0, none⟩ _) HRB.out) (grownBy_setCellK _ ⟨R, 1, none⟩ _) HRB.out
  · rcases hV4.out with h3 | ⟨b, h3, h4⟩
    · exact .inl h3
    · exact .inr ⟨b, h3, Nat.le_trans HZ1.out h4⟩
  · refine ⟨s11, s12, Vr1, Vw1, vo1, st1, ?_⟩
    refine (Below.heap_setCell _ ⟨R, 1, none⟩ _ q HFQ1.out.1).trans ((Below.heap_setCell _ ⟨R, 0, none⟩ _ q HFQ1.out.1).trans ((hG4.out.block q HHQ1.out.lt fun e => ?_).trans HHQ1.out))
    exact HFQ1.out.2 q e.symm rfl
  · have m1 : Mid (fun b => G b ∨ b = R ∨ (Value.slice AO nO cO).ownBlock = some b) w W := Mid.of HBA.out
    have m2 := m1.then HM1.out fun b hx => .inl (.inl hx)
    have m3 := m2.then (mid_row hG4.out) fun b hx => .inl (.inr (.inr hx))
    have m4 := m3.then (mid_set w4 ⟨R, 0, none⟩ (.slice A4 n4 c4)) fun b hx => .inl (.inr (.inl hx))
    exact m4.then (mid_set _ ⟨R, 1, none⟩ _) fun b hx => .inl (.inr (.inl hx))
end Go.Proofs.YtncpokioagpclaaGreatDoor
namespace Go.Proofs.YtncpokioagpclaaGreatDoor
set_option linter.unusedVariables false
set_option linter.unusedSimpArgs false
set_option linter.unnecessarySimpa false
open Go.RowKit Go.Lib
theorem infoerr : (Tryz.prog.info? 26).map (fun i => (i.zero, i.size, i.bytes)) = some (some (.int .i64 0), 1, 8) := by kernel_rfl
/-- append one error that a slice was just built of -/
theorem wpList_appE1o {w : World} {ops : Array Oper} {rest : List Oper} {o : Oper} {a : Act} {Q : Exit → Act → World → Prop} (hgd : o.guard = none) (s x : Operand)
    (ho : o.op = .call { callee := .builtin .append, args := #[s, x], argTypes := #[144, 144] })
    (base : Nat) (v : Value) (zs : List Int) (y : Int) (hs : a.eval s = v) (hown : OwnI .i64 26 w base v zs) (N : Nat) (hx : a.eval x = .slice (some ⟨N, 0, none⟩) 1 1) (hN : w.heap.size = N)
    (hsz : zs.length ≤ 1000000) (hbase : base ≤ w.heap.size)
    (h : ∀ v' w', Hid (OwnI .i64 26 w' base v' (zs ++ [y])) → Hid (w.grownBy w' v.ownBlock) → Hid (v'.ownBlock = v.ownBlock ∨ ∃ b, v'.ownBlock = some b ∧ w.heap.size ≤ b) → wpList Tryz.prog ops Q rest (a.put o.dst v') w') : wpList Tryz.prog ops Q (o :: rest) a (w.alloc (.cells #[.int .i64 y] 26)) := by
  subst hN
  obtain ⟨i0, hi, hz0, hz1, hz2⟩ := info_parts infoerr
  refine wpList_appB _ hgd s x 144 ho base 26 i0 (.int .i64 0) 1 8 Tryz.underlying144 hi hz0 hz1 hz2 rfl (by decide) v zs.length _ hs (own_below hown ((Below.refl _ w).alloc (Nat.le_refl _) _) (Nat.le_refl _)) _ _ 1 1 _ hx (by simp) (rd_new_ints w .i64 [y] _ _ rfl) (fun u hu => by obtain ⟨y, _, rfl⟩ := List.mem_map.1 hu; rfl) (by simp only [maxLen]; omega) (by omega) (by simp; omega) ?_
  intro v' w' h1 h2 h3
  refine h v' w' (Lib.hid ?_) (Lib.hid ((World.grownBy_alloc w _ v.ownBlock).trans h2)) (Lib.hid ?_)
  · unfold OwnI
    rw [List.length_append, List.map_append]
    exact h1
  · rcases h3 with h | h
    · exact .inl h
    · exact .inr ⟨_, h, by simp⟩
theorem inforep : (Tryz.prog.info? 146).map (·.size) = some 6 := by kernel_rfl
theorem rep_ret {fn : Func} {p : Tmp} {a : Act} {w : World} {R : Ending → World → Prop} {g : Nat} {cs : Array Value} {t : TypeId} {fr : Nat × Nat} (h : fn.results = #[.cell p 146]) (hp : a.tmps.getD p undef = .pointer (some ⟨g, 0, none⟩)) (hg : w.heap[g]? = some (.cells cs t fr)) (hs : cs.size = 6)
    (hd : a.defers = []) (hR : R (.returned (.agg cs)) w) : bodyPost Tryz.prog fn R .ret a w :=
  bodyPost_ret (results_cell_row h a.tmps w g t cs fr _ hp hg Tryz.underlying146 rfl (by rw [inforep, hs])) hd hR
theorem StSP.pdlt {k1 k2 : Nat} {pol : Int} {pd : Nat} {G F : Nat → Prop} {w : World} {q : Nat} {s : SSt} (h : StSP k1 k2 pol pd G F w q s) : pd < w.heap.size := by
  obtain ⟨_, _, s1, s2, p, S, vo, GD, FD, GE, FE, h, rfl, rfl⟩ := h
  obtain ⟨d', hd, _⟩ := h.dec
  refine hd.foot.2.1 pd (hd.foot.1 pd ?_)
  unfold DV at hd
  by_cases h0 : k1 = 0
  · rw [if_pos h0] at hd; exact hd.gp
  · rw [if_neg h0] at hd
    obtain ⟨_, _, _, _, _, hd⟩ := hd
    exact hd.gp
/-- the law's example -/
def exA : List Ac := [⟨0, 16, [97, 98]⟩, ⟨1, 12, []⟩]
def s1X : SSt := ⟨⟨[], 2, 0⟩, ⟨[], 2, [], 0⟩, [], F0, false, false⟩
def exO : Nat → List Int
  | 0 => []
  | _ => [97, 98]
def exU : Nat → Int
  | 0 => 0
  | _ => 2
def exT : Nat → List Int
  | 0 => []
  | 1 => [0]
  | _ => [0, 9]
def exS : Nat → SSt
  | 0 => S0
  | _ => s1X
/-- K acts are done -/
structure RunI (pd q N : Nat) (G0 : Nat → Prop) (w : World) (K : Nat) (wr : World) (vO vT : Value) : Prop where
  rep : Held wr (N + 1) (RpC vO (exU K) vT F0) 146
  res : Held wr N (RpC (.slice none 0 0) 0 (.slice none 0 0) F0) 146
  out : OwnI .u8 5 wr (N + 2) vO (exO K)
  told : OwnI .i64 26 wr (N + 2) vT (exT K)
  ot : ∀ b, vO.ownBlock = some b → vT.ownBlock ≠ some b
  mid : Mid G0 w wr
  sz : N + 2 ≤ wr.heap.size
  st : K ≤ 1 → ∃ G F, StSP 1 0 0 pd G F wr q (exS K) ∧ ¬ F (N + 1) ∧ (∀ b, vO.ownBlock = some b → ¬ F b) ∧ (∀ b, vT.ownBlock = some b → ¬ F b) ∧ ∀ b, G b → G0 b ∨ N + 1 < b
  box : ∃ s1 s2 Vr Vw vo st, Held wr q (StC s1 s2 0 Vr Vw vo F0 st) 129
/-- behind an act: what it told is added -/
theorem RunI.next {pd q N : Nat} {G0 : Nat → Prop} {w wr W7 w8 w9 : World} {K : Nat} {vO vT vO8 v9 : Value} (h : RunI pd q N G0 w K wr vO vT) (hN : w.heap.size = N) (hq : q < N) (hpd : pd < N) (hG0 : ∀ b, G0 b → b < N)
    (h7 : Below wr.heap.size wr W7) {X : Nat → Prop} (hX : ∀ b, X b → (G0 b ∨ N + 1 < b) ∨ b = N + 1 ∨ vO.ownBlock = some b) (hXT : ∀ b, vT.ownBlock = some b → ¬ X b) (h8 : Mid X W7 w8)
    (hR8 : Held w8 (N + 1) (RpC vO8 (exU (K + 1)) vT F0) 146) (hO8 : OwnI .u8 5 w8 (N + 2) vO8 (exO (K + 1))) (hv8 : vO8.ownBlock = vO.ownBlock ∨ ∃ b, vO8.ownBlock = some b ∧ W7.heap.size ≤ b)
    (hb8 : ∃ s1 s2 Vr Vw vo st, Held w8 q (StC s1 s2 0 Vr Vw vo F0 st) 129)
    (hs8 : K + 1 ≤ 1 → ∃ G F, StSP 1 0 0 pd G F w8 q (exS (K + 1)) ∧ ¬ F (N + 1) ∧ (∀ b, vO8.ownBlock = some b → ¬ F b) ∧ (∀ b, vT.ownBlock = some b → ¬ F b) ∧ ∀ b, G b → G0 b ∨ N + 1 < b)
    (hT9 : OwnI .i64 26 w9 (N + 2) v9 (exT (K + 1))) (h9 : w8.grownBy w9 vT.ownBlock) (hv9 : v9.ownBlock = vT.ownBlock ∨ ∃ b, v9.ownBlock = some b ∧ w8.heap.size ≤ b) :
    RunI pd q N G0 w (K + 1) (w9.setCell ⟨N + 1, 2, none⟩ v9) vO8 v9 := by
  have hvT : ∀ b, vT.ownBlock = some b → N + 2 ≤ b ∧ b < wr.heap.size := fun b e => World.ownsRow.lt h.told b e
  have hvO : ∀ b, vO.ownBlock = some b → N + 2 ≤ b ∧ b < wr.heap.size := fun b e => World.ownsRow.lt h.out b e
  have hvO8 : ∀ b, vO8.ownBlock = some b → N + 2 ≤ b ∧ b < w8.heap.size := fun b e => World.ownsRow.lt hO8 b e
  have s7 := h7.size
  have s8 := h8.size
  have s9 := h9.size
  have hot8 : ∀ b, vO8.ownBlock = some b → vT.ownBlock ≠ some b := fun b e e2 => by
    rcases hv8 with h1 | ⟨b', h1, h2⟩
    · exact h.ot b (h1 ▸ e) e2
    · rw [h1] at e; injection e with e; have := (hvT b e2).2; omega
  have hk9 : ∀ b, b < w8.heap.size → b ≠ N + 1 → vT.ownBlock ≠ some b → (w9.setCell ⟨N + 1, 2, none⟩ v9).heap[b]? = w8.heap[b]? := fun b hl hn ht => (Below.heap_setCell _ ⟨N + 1, 2, none⟩ _ b hn).trans (h9.block b hl fun e => ht e.symm)
  have hNT : vT.ownBlock ≠ some N := fun e => by have := (hvT N e).1; omega
  have hNX : ¬ X N := fun hx => by
    rcases hX N hx with (h1 | h1) | h1 | h1
    · have := hG0 N h1; omega
    · omega
    · omega
    · have := (hvO N h1).1; omega
  have hsz := h.sz
  refine ⟨?_, ?_, ?_, ?_, ?_, ?_, ?_, ?_, ?_⟩
  · exact heldS _ _ 2 _ _ v9 (hR8.kept h9 fun e => by have := (hvT (N + 1) e.symm).1; omega)
  · exact (hk9 N (by omega) (by omega) hNT).trans ((h8.block N (by omega) hNX).trans ((h7.block N (by omega)).trans h.res))
  · exact own_stayB hO8 fun b e => hk9 b (hvO8 b e).2 (by have := (hvO8 b e).1; omega) (hot8 b e)
  · refine own_stayB hT9 fun b e => Below.heap_setCell _ ⟨N + 1, 2, none⟩ _ b ?_
    have := (World.ownsRow.lt hT9 b e).1
    show b ≠ N + 1
    omega
  · intro b e e2
    rcases hv9 with h1 | ⟨b', h1, h2⟩
    · exact hot8 b e (h1 ▸ e2)
    · rw [h1] at e2; injection e2 with e2; have := (hvO8 b e).2; omega
  · have hmw := h.mid.size
    have m1 := h.mid.then (Mid.of (G := G0) h7) fun b hx => .inl hx
    have m2 := m1.then h8 fun b hx => by
      rcases hX b hx with (h1 | h1) | h1 | h1
      · exact .inl h1
      · exact .inr (by omega)
      · exact .inr (by omega)
      · exact .inr (by have := (hvO b h1).1; omega)
    have m3 := m2.then (mid_row h9) fun b hx => .inr (by have := (hvT b hx).1; omega)
    exact m3.then (mid_set _ ⟨N + 1, 2, none⟩ _) fun b hx => .inr (by have e : b = N + 1 := hx; omega)
  · rw [World.size_setCell]; omega
  · intro hK
    obtain ⟨G, F, g1, g2, g3, g4, g5⟩ := hs8 hK
    have hft := g1.to.foot
    refine ⟨G, F, g1.stay (by rw [World.size_setCell]; omega) fun b hx => hk9 b (hft.2 b hx) (fun e => g2 (e ▸ hx)) (fun e => g4 b e hx), g2, g3, fun b e hx => ?_, g5⟩
    rcases hv9 with h1 | ⟨b', h1, h2⟩
    · exact g4 b (h1 ▸ e) hx
    · rw [h1] at e; injection e with e; have := hft.2 b hx; omega
  · obtain ⟨a1, a2, a3, a4, a5, a6, hh⟩ := hb8
    exact ⟨a1, a2, a3, a4, a5, a6, (hk9 q hh.lt (by omega) fun e => by have := (hvT q e).1; omega).trans hh⟩
end Go.Proofs.YtncpokioagpclaaGreatDoor
namespace Go.Proofs.YtncpokioagpclaaGreatDoor
set_option linter.unusedVariables false
set_option linter.unusedSimpArgs false
set_option linter.unnecessarySimpa false
open Go.RowKit Go.Lib
theorem wpList_store_midW {P : Program} {ops : Array Oper} {rest : List Oper} {op : Oper} {a : Act} {w : World} {Q : Exit → Act → World → Prop} (hgd : op.guard = none) (ty : TypeId) (x y : Operand) (ho : op.op = .store ty x y)
    (b o : Nat) (cells : Array Value) (hx : a.eval x = .pointer (some ⟨b, o, none⟩)) (hy : a.eval y = .agg cells)
    (ht : w.there b o cells.size) (hi : (P.info? ty).map (·.size) = some cells.size) (h1 : cells.all (·.oneCell') = true)
    (h : ∀ W, Hid (w.setCells b o cells.toList = W) → wpList P ops Q rest (a.put op.dst undef) W) : wpList P ops Q (op :: rest) a w :=
  wpList_store_mid hgd ty x y ho b o cells hx hy ht hi h1 (h _ (Lib.hid rfl))
set_option maxRecDepth 100000 in
set_option maxHeartbeats 6400000 in
theorem srun_ex (w : World) (q pd base c : Nat) (A : Option Addr) (G0 F00 : Nat → Prop) (h : StSP 1 0 0 pd G0 F00 w q S0) (hF : ∀ b, F00 b → b < base) (ha : OwnAcN base w (.slice A 2 c) exA) (hbw : base ≤ w.heap.size) :
    Calls Tryz.prog 105 #[.pointer (some ⟨q, 0, none⟩), .slice A 2 c] w fun e w' => ∃ Ao co At ct, e = .returned (.agg (RpC (.slice Ao 2 co) 2 (.slice At 2 ct) F0)) ∧ Mid G0 w w' := by
  have hft := h.to.foot
  obtain ⟨hgq, s1, s2, Vr, Vw, vo, st, hhq⟩ := h.to.held
  have hpd := h.pdlt
  obtain ⟨g, t0, hA, hgb, q0, q1, q2, u0⟩ := ha.cells rfl (K := 0) (by decide)
  obtain ⟨g', t1, hA', -, q3, q4, q5, u1⟩ := ha.cells rfl (K := 1) (by decide)
  subst hA
  obtain rfl : g = g' := by injection hA' with hA'; injection hA'
  have hgl : g < w.heap.size := by obtain ⟨xs, h1, _⟩ := ha; exact (h1.lt g rfl).2
  obtain ⟨At0, ct0, ht0, htc0, htm0, hrt0⟩ := u0
  obtain ⟨At1, ct1, ht1, htc1, htm1, hrt1⟩ := u1
  subst ht0 ht1
  have hb1 := below_allocT w (.cells #[.slice none 0 0, .int .i64 0, .slice none 0 0, .int .i64 0, .int .i64 0, .int .i64 0] 146)
  have hn1 := Held.new w #[.slice none 0 0, .int .i64 0, .slice none 0 0, .int .i64 0, .int .i64 0, .int .i64 0] 146
  have hz1 : (w.alloc (.cells #[.slice none 0 0, .int .i64 0, .slice none 0 0, .int .i64 0, .int .i64 0, .int .i64 0] 146)).heap.size = w.heap.size + 1 := by simp
  obtain ⟨W1, hW1⟩ : ∃ W, w.alloc (.cells #[.slice none 0 0, .int .i64 0, .slice none 0 0, .int .i64 0, .int .i64 0, .int .i64 0] 146) = W := ⟨_, rfl⟩
  rw [hW1] at hb1 hn1 hz1
  have hb2 := below_allocT W1 (.cells #[.slice none 0 0, .int .i64 0, .slice none 0 0, .int .i64 0, .int .i64 0, .int .i64 0] 146)
  have hn2 := Held.new W1 #[.slice none 0 0, .int .i64 0, .slice none 0 0, .int .i64 0, .int .i64 0, .int .i64 0] 146
  have hz2 : (W1.alloc (.cells #[.slice none 0 0, .int .i64 0, .slice none 0 0, .int .i64 0, .int .i64 0, .int .i64 0] 146)).heap.size = W1.heap.size + 1 := by simp
  obtain ⟨W2, hW2⟩ : ∃ W, W1.alloc (.cells #[.slice none 0 0, .int .i64 0, .slice none 0 0, .int .i64 0, .int .i64 0, .int .i64 0] 146) = W := ⟨_, rfl⟩
  rw [hW2] at hb2 hn2 hz2
  obtain ⟨N, hN⟩ : ∃ N, w.heap.size = N := ⟨_, rfl⟩
  rw [hz1] at hn2
  rw [hN] at hn1 hn2 hz1
  have hb02 := hb1.trans (hb2.mono hb1.size)
  have hres := hn1.below hb2 hn1.lt
  have hst2 := h.stay hb02.size fun b hx => hb02.block b (hft.2 b hx)
  have HI0 : Hid (RunI pd q N G0 w 0 W2 (.slice none 0 0) (.slice none 0 0)) := Lib.hid ⟨hn2, hres, World.ownsRow_nil _ _ _ 1, World.ownsRow_nil _ _ _ 1, fun b e => (by cases e), Mid.of hb02, by omega, fun _ => ⟨G0, F00, hst2, fun hx => by have := hft.2 _ hx; omega, fun b e => (by cases e), fun b e => (by cases e), fun b hx => .inl hx⟩, ⟨s1, s2, Vr, Vw, vo, st, hhq.below hb02 hhq.lt⟩⟩
  have HFT := Lib.hid hft
  have HG0 := Lib.hid (show ∀ b, G0 b → b < base from fun b hb => hF b (hft.1 b hb))
  have HBS := Lib.hid (show base ≤ N ∧ base ≤ g ∧ g < N by omega)
  have HQ := Lib.hid (show q < N by have := hhq.lt; omega)
  have HPD := Lib.hid (show pd < N by omega)
  have HN := Lib.hid hN
  have HW1 := Lib.hid hW1
  have HW2 := Lib.hid hW2
  have HRT := Lib.hid hrt0
  have HTC := Lib.hid (show 2 ≤ ct0 ∧ ct0 ≤ maxLen from ⟨htc0, htm0⟩)
  have HQS := Lib.hid (And.intro q0 (And.intro q1 (And.intro q2 (And.intro q3 (And.intro q4 q5)))))
  have hNN : W1.heap.size = N + 1 := hz1
  have HNN := Lib.hid hNN
  clear h hft hhq hpd ha hgb q0 q1 q2 q3 q4 q5 hgl htc0 htm0 hrt0 htc1 htm1 hrt1 hb1 hn1 hz1 hb2 hn2 hz2 hW1 hW2 hN hb02 hres hst2 hgq hF hbw hA' hNN
  go_enter Tryz.func105, Tryz.ntmps105
  go_upto_region 2 with fail
  rw [HW1.out, HW2.out, HN.out]
  go_wp2_with fail
  go_loopw [11] (fun i wr => ∃ (K : Nat) (vO vT : Value), K ≤ 2 ∧ i = .int .i64 K ∧ Hid (RunI pd q N G0 w K wr vO vT)) (fun i _ => 2 - (intOf i).toNat)
  case atStart => exact ⟨0, _, _, by omega, rfl, HI0⟩
  case round =>
    clear HI0
    obtain ⟨K, vO, vT, hK, rfl, hI⟩ := hrel
    obtain ⟨wa, rfl⟩ : ∃ wa : World, wa = wr := ⟨_, rfl⟩
    have hgk : wa.heap[g]? = w.heap[g]? := hI.out.mid.block g (by have := HBS.out; have := HN.out; omega) (fun hx => by have := HG0.out g hx; have := HBS.out; omega)
    match K, hK, hI with
    | 0, _, hI =>
      have q0 : wa.cell? ⟨g, 0, none⟩ = some (.int .i64 0) := (cell_block hgk _).trans HQS.out.1
      have q1 : wa.cell? ⟨g, 1, none⟩ = some (.int .i64 16) := (cell_block hgk _).trans HQS.out.2.1
      have q2 : wa.cell? ⟨g, 2, none⟩ = some (.slice At0 2 ct0) := (cell_block hgk _).trans HQS.out.2.2.1
      obtain ⟨G, F, hs, hFR, hFO, hFT, hG⟩ := hI.out.st (by decide)
      have hft := hs.to.foot
      have hsz := hI.out.sz
      have hvO : ∀ b, vO.ownBlock = some b → N + 2 ≤ b ∧ b < wa.heap.size := fun b e => World.ownsRow.lt hI.out.out b e
      have hvT : ∀ b, vT.ownBlock = some b → N + 2 ≤ b ∧ b < wa.heap.size := fun b e => World.ownsRow.lt hI.out.told b e
      have hb7 := below_allocT wa (.cells #[.int .i64 0, .int .i64 16, .slice At0 2 ct0] 81)
      have hn7 := Held.new wa #[.int .i64 0, .int .i64 16, .slice At0 2 ct0] 81
      have hz7 : (wa.alloc (.cells #[.int .i64 0, .int .i64 16, .slice At0 2 ct0] 81)).heap.size = wa.heap.size + 1 := by simp
      obtain ⟨W7, hW7⟩ : ∃ W, wa.alloc (.cells #[.int .i64 0, .int .i64 16, .slice At0 2 ct0] 81) = W := ⟨_, rfl⟩
      rw [hW7] at hb7 hn7 hz7
      have hs7 := hs.stay hb7.size fun b hx => hb7.block b (hft.2 b hx)
      have hR7 : Held W7 (N + 1) (RpC vO 0 vT F0) 146 := hI.out.rep.below hb7 hI.out.rep.lt
      have hO7 : OwnI .u8 5 W7 (N + 2) vO (exO 0) := own_below hI.out.out hb7 (Nat.le_refl _)
      have hT7 : OwnI .i64 26 W7 (N + 2) vT (exT 0) := own_below hI.out.told hb7 (Nat.le_refl _)
      have hXT : ∀ b, vT.ownBlock = some b → ¬ (G b ∨ b = N + 1 ∨ vO.ownBlock = some b) := fun b e hx => by
        rcases hx with h1 | h1 | h1
        · exact hFT b e (hft.1 b h1)
        · have := (hvT b e).1; omega
        · exact hI.out.ot b h1 e
      have HXT := Lib.hid hXT
      have HX7 := Lib.hid (show ∀ b, (G b ∨ b = N + 1 ∨ vO.ownBlock = some b) → (G0 b ∨ N + 1 < b) ∨ b = N + 1 ∨ vO.ownBlock = some b from fun b hx => hx.elim (fun h => .inl (hG b h)) .inr)
      have HB7 := Lib.hid hb7
      have HW7 := Lib.hid hW7
      have HT7 := Lib.hid hT7
      have HZ7 := Lib.hid (show N + 2 ≤ W7.heap.size ∧ wa.heap.size ≤ W7.heap.size by omega)
      have hr7 : Rdx (fun b => ¬ G b) W7 At0 (([97, 98] : List Int).map (Value.int .u8)) := HRT.out.step (by have := HN.out; omega) fun b hl hx => by
        have hng : ¬ G0 b := fun h => by have := HG0.out b h; have := hx.1; omega
        exact ⟨fun h => (hG b h).elim hng (fun h1 => by have := HN.out; omega), (hb7.block b (by have := HN.out; omega)).trans (hI.out.mid.block b hl hng)⟩
      have C1 := Lib.hid (addF_any (w := W7) (q := q) (R := N + 1) (BO := N + 2) vO vT (exO 0) 0 2 At0 ct0 [97, 98] 16 [97, 98] 2 0 s1X hs7 (by decide) (by decide) rfl hr7 (by decide) (by decide) (by decide) (by decide) (by decide) ex22_feed hR7 hFR (by have := HPD.out; omega) hO7 (fun b e => ⟨hFO b e, by have := (hvO b e).1; have := HPD.out; omega, by have := (hvO b e).1; omega⟩) (by omega) (by omega) (by decide) (by decide) (by decide) (by decide) (by decide))
      have HF7 := Lib.hid (show ¬ F (N + 1) ∧ (∀ b, vO.ownBlock = some b → ¬ F b ∧ N + 2 ≤ b ∧ b < wa.heap.size) ∧ (∀ b, vT.ownBlock = some b → ¬ F b ∧ N + 2 ≤ b ∧ b < wa.heap.size) ∧ ∀ b, G b → G0 b ∨ N + 1 < b from ⟨hFR, fun b e => ⟨hFO b e, hvO b e⟩, fun b e => ⟨hFT b e, hvT b e⟩, hG⟩)
      have y0 := hn7.cell 0
      have y1 := hn7.cell 1
      have y2 := hn7.cell 2
      obtain ⟨N7, hN7⟩ : ∃ x, wa.heap.size = x := ⟨_, rfl⟩
      rw [hN7] at y0 y1 y2
      have HN7 := Lib.hid hN7
      clear hgk hs hFR hFO hFT hG hft hsz hvO hvT hb7 hn7 hz7 hW7 hs7 hR7 hO7 hT7 hXT hr7 hN7
      go_upto_region 5 with fail
      rw [HW7.out, HN7.out]
      go_wp2_with fail
      refine C1.out.mono ?_
      rintro e w8 ⟨vO8, G8, F8, rfl, hR8, hO8, hv8, hs8, hF8, hG8, hm8⟩
      have hn7 := HN7.out
      have hz7 := HZ7.out
      have HM8 := Lib.hid hm8
      have HO8 := Lib.hid (show OwnI .u8 5 w8 (N + 2) vO8 (exO 1) from hO8)
      have HTW8 := Lib.hid (own_mid HT7.out hm8 HXT.out)
      have HZ8 := Lib.hid (show N + 2 ≤ w8.heap.size by have := hm8.size; omega)
      have HV8 := Lib.hid (show vO8.ownBlock = vO.ownBlock ∨ ∃ b, vO8.ownBlock = some b ∧ W7.heap.size ≤ b from hv8.elim .inl (fun ⟨b, h1, h2, _⟩ => .inr ⟨b, h1, h2⟩))
      have HBX8 := Lib.hid hs8.to.held.2
      have HST8 := Lib.hid (show 0 + 1 ≤ 1 → ∃ G F, StSP 1 0 0 pd G F w8 q (exS (0 + 1)) ∧ ¬ F (N + 1) ∧ (∀ b, vO8.ownBlock = some b → ¬ F b) ∧ (∀ b, vT.ownBlock = some b → ¬ F b) ∧ ∀ b, G b → G0 b ∨ N + 1 < b from fun _ => by
        have h7 := HF7.out
        have hpd := HPD.out
        have key : ∀ b, ¬ F b → N < b → b < W7.heap.size → ¬ F8 b := fun b h1 h2 h3 h4 => by
          rcases hF8 b h4 with h5 | h5 | h5
          · exact h1 h5
          · omega
          · omega
        refine ⟨G8, F8, hs8, key _ h7.1 (by omega) (by omega), fun b e => ?_, fun b e => key b (h7.2.2.1 b e).1 (by have := (h7.2.2.1 b e).2.1; omega) (by have := (h7.2.2.1 b e).2.2; omega), fun b hb => ?_⟩
        · rcases hv8 with h1 | ⟨b', h1, h2, h3⟩
          · rw [h1] at e
            exact key b (h7.2.1 b e).1 (by have := (h7.2.1 b e).2.1; omega) (by have := (h7.2.1 b e).2.2; omega)
          · rw [h1] at e; injection e with e; rw [← e]; exact h3
        · rcases hG8 b hb with h1 | h1
          · exact h7.2.2.2 b h1
          · exact .inr (by omega))
      have hR8 : Held w8 (N + 1) (RpC vO8 (exU 1) vT F0) 146 := hR8
      clear hO8 hv8 hs8 hF8 hG8 hm8 hn7 hz7 C1 y0 y1 y2
      obtain ⟨AT, cT, hvT, -, -⟩ := own_form HTW8.out
      rw [show (exT 0).length = 0 from rfl] at hvT
      subst hvT
      have r2 := hR8.cell 2
      have f2 := hR8.frozen 2
      have HR8 := Lib.hid hR8
      clear hR8
      go_wp2_with (at_builtin; refine wpList_appE1o rfl _ _ rfl (N + 2) (.slice AT 0 cT) (exT 0) 0 rfl HTW8.out _ rfl rfl (by decide) HZ8.out ?_)
      intro v9 w9 hT9 hG9 hV9
      have hR9 := HR8.out.kept hG9.out fun e => by have := (World.ownsRow.lt HTW8.out (N + 1) e.symm).1; omega
      have r2' := hR9.cell 2
      have f2' := hR9.frozen 2
      have HI9 := Lib.hid (show RunI pd q N G0 w 1 (w9.setCell ⟨N + 1, 2, none⟩ v9) vO8 v9 from hI.out.next HN.out HQ.out HPD.out (fun b hb => by have := HG0.out b hb; have := HBS.out; omega) HB7.out HX7.out HXT.out HM8.out HR8.out HO8.out HV8.out HBX8.out HST8.out hT9.out hG9.out hV9.out)
      obtain ⟨A9, c9, hv9, -, -⟩ := own_form hT9.out
      rw [show (exT 0 ++ [(0 : Int)]).length = 1 from rfl] at hv9
      subst hv9
      clear hR9 hT9 hG9 hV9
      go_wp2_with fail
      go_roundw
      case rel => exact ⟨1, vO8, .slice A9 1 c9, by omega, by go_num, HI9⟩
      case measure => simp [intOf]
    | 1, _, hI =>
      have q0 : wa.cell? ⟨g, 3, none⟩ = some (.int .i64 1) := (cell_block hgk _).trans HQS.out.2.2.2.1
      have q1 : wa.cell? ⟨g, 4, none⟩ = some (.int .i64 12) := (cell_block hgk _).trans HQS.out.2.2.2.2.1
      have q2 : wa.cell? ⟨g, 5, none⟩ = some (.slice At1 0 ct1) := (cell_block hgk _).trans HQS.out.2.2.2.2.2
      obtain ⟨G, F, hs, hFR, hFO, hFT, hG⟩ := hI.out.st (by decide)
      have hft := hs.to.foot
      have hsz := hI.out.sz
      have hvO : ∀ b, vO.ownBlock = some b → N + 2 ≤ b ∧ b < wa.heap.size := fun b e => World.ownsRow.lt hI.out.out b e
      have hvT : ∀ b, vT.ownBlock = some b → N + 2 ≤ b ∧ b < wa.heap.size := fun b e => World.ownsRow.lt hI.out.told b e
      have hb7 := below_allocT wa (.cells #[.int .i64 1, .int .i64 12, .slice At1 0 ct1] 81)
      have hn7 := Held.new wa #[.int .i64 1, .int .i64 12, .slice At1 0 ct1] 81
      have hz7 : (wa.alloc (.cells #[.int .i64 1, .int .i64 12, .slice At1 0 ct1] 81)).heap.size = wa.heap.size + 1 := by simp
      obtain ⟨W7, hW7⟩ : ∃ W, wa.alloc (.cells #[.int .i64 1, .int .i64 12, .slice At1 0 ct1] 81) = W := ⟨_, rfl⟩
      rw [hW7] at hb7 hn7 hz7
      have hs7 := hs.stay hb7.size fun b hx => hb7.block b (hft.2 b hx)
      have hR7 : Held W7 (N + 1) (RpC vO 2 vT F0) 146 := hI.out.rep.below hb7 hI.out.rep.lt
      have hO7 : OwnI .u8 5 W7 (N + 2) vO (exO 1) := own_below hI.out.out hb7 (Nat.le_refl _)
      have hT7 : OwnI .i64 26 W7 (N + 2) vT (exT 1) := own_below hI.out.told hb7 (Nat.le_refl _)
      have hXT : ∀ b, vT.ownBlock = some b → ¬ (G b ∨ b = N + 1 ∨ vO.ownBlock = some b) := fun b e hx => by
        rcases hx with h1 | h1 | h1
        · exact hFT b e (hft.1 b h1)
        · have := (hvT b e).1; omega
        · exact hI.out.ot b h1 e
      have HXT := Lib.hid hXT
      have HX7 := Lib.hid (show ∀ b, (G b ∨ b = N + 1 ∨ vO.ownBlock = some b) → (G0 b ∨ N + 1 < b) ∨ b = N + 1 ∨ vO.ownBlock = some b from fun b hx => hx.elim (fun h => .inl (hG b h)) .inr)
      have HB7 := Lib.hid hb7
      have HW7 := Lib.hid hW7
      have HT7 := Lib.hid hT7
      have HZ7 := Lib.hid (show N + 2 ≤ W7.heap.size ∧ wa.heap.size ≤ W7.heap.size by omega)
      have C1 := Lib.hid (addL_any (w := W7) (q := q) (R := N + 1) (BO := N + 2) vO vT (exO 1) 2 0 At1 ct1 12 [] 9 s1X hs7.to (by decide) (by decide) (by decide) (by decide) (by decide) ex22_flush hR7 hFR hO7 (fun b e => ⟨hFO b e, by have := (hvO b e).1; omega⟩) (by omega) (by omega) (by decide) (by decide) (by decide))
      have y0 := hn7.cell 0
      have y1 := hn7.cell 1
      have y2 := hn7.cell 2
      obtain ⟨N7, hN7⟩ : ∃ x, wa.heap.size = x := ⟨_, rfl⟩
      rw [hN7] at y0 y1 y2
      have HN7 := Lib.hid hN7
      clear hgk hs hFR hFO hFT hG hft hsz hvO hvT hb7 hn7 hz7 hW7 hs7 hR7 hO7 hT7 hXT hN7
      go_upto_region 5 with fail
      rw [HW7.out, HN7.out]
      go_wp2_with fail
      refine C1.out.mono ?_
      rintro e w8 ⟨vO8, rfl, hR8, hO8, hv8, hb8, hm8⟩
      have HM8 := Lib.hid hm8
      have HO8 := Lib.hid (show OwnI .u8 5 w8 (N + 2) vO8 (exO 2) from hO8)
      have HTW8 := Lib.hid (own_mid HT7.out hm8 HXT.out)
      have HZ8 := Lib.hid (show N + 2 ≤ w8.heap.size by have := hm8.size; have := HZ7.out; omega)
      have HV8 := Lib.hid hv8
      have HBX8 := Lib.hid hb8
      have HST8 := Lib.hid (show 1 + 1 ≤ 1 → ∃ G F, StSP 1 0 0 pd G F w8 q (exS (1 + 1)) ∧ ¬ F (N + 1) ∧ (∀ b, vO8.ownBlock = some b → ¬ F b) ∧ (∀ b, vT.ownBlock = some b → ¬ F b) ∧ ∀ b, G b → G0 b ∨ N + 1 < b from fun h => absurd h (by decide))
      have hR8 : Held w8 (N + 1) (RpC vO8 (exU 2) vT F0) 146 := hR8
      clear hO8 hv8 hb8 hm8 C1 y0 y1 y2
      obtain ⟨AT, cT, hvT, -, -⟩ := own_form HTW8.out
      rw [show (exT 1).length = 1 from rfl] at hvT
      subst hvT
      have r2 := hR8.cell 2
      have f2 := hR8.frozen 2
      have HR8 := Lib.hid hR8
      clear hR8
      go_wp2_with (at_builtin; refine wpList_appE1o rfl _ _ rfl (N + 2) (.slice AT 1 cT) (exT 1) 9 rfl HTW8.out _ rfl rfl (by decide) HZ8.out ?_)
      intro v9 w9 hT9 hG9 hV9
      have hR9 := HR8.out.kept hG9.out fun e => by have := (World.ownsRow.lt HTW8.out (N + 1) e.symm).1; omega
      have r2' := hR9.cell 2
      have f2' := hR9.frozen 2
      have HI9 := Lib.hid (show RunI pd q N G0 w 2 (w9.setCell ⟨N + 1, 2, none⟩ v9) vO8 v9 from hI.out.next HN.out HQ.out HPD.out (fun b hb => by have := HG0.out b hb; have := HBS.out; omega) HB7.out HX7.out HXT.out HM8.out HR8.out HO8.out HV8.out HBX8.out HST8.out hT9.out hG9.out hV9.out)
      obtain ⟨A9, c9, hv9, -, -⟩ := own_form hT9.out
      rw [show (exT 1 ++ [(9 : Int)]).length = 2 from rfl] at hv9
      subst hv9
      clear hR9 hT9 hG9 hV9
      go_wp2_with fail
      go_roundw
      case rel => exact ⟨2, vO8, .slice A9 2 c9, by omega, by go_num, HI9⟩
      case measure => simp [intOf]
    | 2, _, hI =>
      obtain ⟨a1, a2, a3, a4, a5, a6, hh⟩ := hI.out.box
      have C3 := Lib.hid (sfaultH_any hh)
      have hsz := hI.out.sz
      have hvO : ∀ b, vO.ownBlock = some b → N + 2 ≤ b ∧ b < wa.heap.size := fun b e => World.ownsRow.lt hI.out.out b e
      have hvT : ∀ b, vT.ownBlock = some b → N + 2 ≤ b ∧ b < wa.heap.size := fun b e => World.ownsRow.lt hI.out.told b e
      obtain ⟨AO, cO, hvO2, -, -⟩ := own_form hI.out.out
      obtain ⟨AT, cT, hvT2, -, -⟩ := own_form hI.out.told
      rw [show (exO 2).length = 2 from rfl] at hvO2
      rw [show (exT 2).length = 2 from rfl] at hvT2
      subst hvO2 hvT2
      clear hgk hh hvO hvT
      go_wp2_with fail
      refine C3.out.mono ?_
      rintro e w3 ⟨rfl, hb3⟩
      rw [show fltV F0 = .agg #[.int .i64 0, .int .i64 0, .int .i64 0] from rfl]
      have hR3 : Held w3 (N + 1) #[.slice AO 2 cO, .int .i64 2, .slice AT 2 cT, .int .i64 0, .int .i64 0, .int .i64 0] 146 := hI.out.rep.below hb3 hI.out.rep.lt
      have hN3 : Held w3 N #[.slice none 0 0, .int .i64 0, .slice none 0 0, .int .i64 0, .int .i64 0, .int .i64 0] 146 := hI.out.res.below hb3 hI.out.res.lt
      have HTH := Lib.hid (thereS hR3 3 3 (by show 6 ≤ 6; omega))
      have HR3 := Lib.hid hR3
      have HN3 := Lib.hid hN3
      have HM3 := Lib.hid (hI.out.mid.then (Mid.of (G := G0) hb3) fun b hx => .inl hx)
      clear hsz hb3 hR3 hN3 C3
      go_wp2_with (refine wpList_store_midW rfl _ _ _ rfl (N + 1) 3 #[.int .i64 0, .int .i64 0, .int .i64 0] rfl rfl HTH.out (by kernel_rfl) (by simp [Value.oneCell']) ?_)
      intro W4 hW4
      have hw4 : w3.setCells (N + 1) 3 [.int .i64 0, .int .i64 0, .int .i64 0] = W4 := hW4.out
      have hg4 := grown_setCells [.int .i64 0, .int .i64 0, .int .i64 0] w3 (N + 1) 3
      have hR4 := held_setCells [.int .i64 0, .int .i64 0, .int .i64 0] w3 (N + 1) 3 _ _ HR3.out
      rw [show setAr #[.slice AO 2 cO, .int .i64 2, .slice AT 2 cT, .int .i64 0, .int .i64 0, .int .i64 0] 3 [.int .i64 0, .int .i64 0, .int .i64 0] = #[.slice AO 2 cO, .int .i64 2, .slice AT 2 cT, .int .i64 0, .int .i64 0, .int .i64 0] by simp [setAr]] at hR4
      rw [hw4] at hg4 hR4
      have hN4 := HN3.out.kept hg4 (fun e => by injection e with e; omega)
      have HM4 := Lib.hid (HM3.out.then (Mid.by (G := fun b => b = N + 1) hg4 rfl) fun b hx => .inr (by have := HN.out; omega))
      have HN4 := Lib.hid hN4
      have HTN := Lib.hid (thereS hN4 0 6 (by show 6 ≤ 6; omega))
      have x0 := hR4.cell 0
      have x1 := hR4.cell 1
      have x2 := hR4.cell 2
      have x3 := hR4.cell 3
      have x4 := hR4.cell 4
      have x5 := hR4.cell 5
      clear hg4 hR4 hN4 hW4 hw4
      go_wp2_with (refine wpList_store_midW rfl _ _ _ rfl N 0 #[.slice AO 2 cO, .int .i64 2, .slice AT 2 cT, .int .i64 0, .int .i64 0, .int .i64 0] rfl rfl HTN.out (by kernel_rfl) (by simp [Value.oneCell']) ?_)
      intro W5 hW5
      have hw5 : W4.setCells N 0 [.slice AO 2 cO, .int .i64 2, .slice AT 2 cT, .int .i64 0, .int .i64 0, .int .i64 0] = W5 := hW5.out
      have hg5 := grown_setCells [.slice AO 2 cO, .int .i64 2, .slice AT 2 cT, .int .i64 0, .int .i64 0, .int .i64 0] W4 N 0
      have hN5 := held_setCells [.slice AO 2 cO, .int .i64 2, .slice AT 2 cT, .int .i64 0, .int .i64 0, .int .i64 0] W4 N 0 _ _ HN4.out
      rw [show setAr #[.slice none 0 0, .int .i64 0, .slice none 0 0, .int .i64 0, .int .i64 0, .int .i64 0] 0 [.slice AO 2 cO, .int .i64 2, .slice AT 2 cT, .int .i64 0, .int .i64 0, .int .i64 0] = #[.slice AO 2 cO, .int .i64 2, .slice AT 2 cT, .int .i64 0, .int .i64 0, .int .i64 0] by simp [setAr]] at hN5
      rw [hw5] at hg5 hN5
      have HN5 := Lib.hid hN5
      have HM5 := Lib.hid (HM4.out.then (Mid.by (G := fun b => b = N) hg5 rfl) fun b hx => .inr (by have := HN.out; omega))
      clear hg5 hN5 hW5 hw5 x0 x1 x2 x3 x4 x5
      go_wp2_with fail
      refine rep_ret (g := N) rfl rfl HN5.out rfl rfl ?_
      exact ⟨AO, cO, AT, cT, rfl, HM5.out⟩
end Go.Proofs.YtncpokioagpclaaGreatDoor
namespace Go.Proofs.YtncpokioagpclaaGreatDoor
set_option linter.unusedVariables false
set_option linter.unusedSimpArgs false
set_option linter.unnecessarySimpa false
open Go.RowKit Go.Lib
theorem results_row2 {P : Program} {fn : Func} {p z : Tmp} {ty : TypeId} (h : fn.results = #[.cell p ty, .tmp z]) (tmps : Array Value) (w : World) (g : Nat) (t : TypeId) (cs : Array Value) (fr : Nat × Nat) (d : TypeDesc)
    (hp : tmps.getD p undef = .pointer (some ⟨g, 0, none⟩)) (hg : w.heap[g]? = some (.cells cs t fr))
    (hu : P.underlying ty = some d) (hd : (match d with | .struct _ | .array _ _ => true | _ => false) = true) (hi : (P.info? ty).map (·.size) = some cs.size) :
    (results fn tmps).run P w = .ok (.tuple #[.agg cs, tmps.getD z undef]) w := by
  have hp' : tmps[p]?.getD undef = .pointer (some ⟨g, 0, none⟩) := by simpa using hp
  simp [results, h, hp', asAddr, run_loadVar_row w g t ty cs fr d hg hu hd hi]
theorem rep_ret2 {fn : Func} {p z : Tmp} {a : Act} {w : World} {R : Ending → World → Prop} {g : Nat} {cs : Array Value} {t : TypeId} {fr : Nat × Nat} {v : Value} (h : fn.results = #[.cell p 146, .tmp z]) (hp : a.tmps.getD p undef = .pointer (some ⟨g, 0, none⟩)) (hg : w.heap[g]? = some (.cells cs t fr)) (hs : cs.size = 6)
    (hz : a.tmps.getD z undef = v) (hd : a.defers = []) (hR : R (.returned (.tuple #[.agg cs, v])) w) : bodyPost Tryz.prog fn R .ret a w :=
  bodyPost_ret (results_row2 h a.tmps w g t cs fr _ hp hg Tryz.underlying146 rfl (by rw [inforep, hs])) hd (by rw [hz]; exact hR)
theorem sts_newP {k1 k2 : Nat} (h1 : k1 ≤ 6) (h2 : k2 ≤ 6) {pol : Int} (p0 : 0 ≤ pol) (p2 : pol ≤ 2) {w' : World} {q pd p : Nat} {s1 s2 : ByteArray} (hh : Held w' q (StC s1 s2 pol (vD k1 pd) (vE k2 p) (.slice none 0 0) F0 1) 129) (hn : NewDE k1 k2 (q + 1) w' pd p) :
    ∃ G F, StSP k1 k2 pol pd G F w' q S0 ∧ ∀ b, F b → q ≤ b := by
  obtain ⟨FD, FE, hM, d2, e2, hw⟩ := stm_new h1 h2 hh hn
  refine ⟨_, _, ⟨p0, p2, s1, s2, p, q + 1, _, _, FD, _, FE, hM, rfl, rfl⟩, fun b hb => ?_⟩
  rcases hb with hb | hb | hb
  · exact hw b hb
  · have := d2 b hb; omega
  · have := e2 b hb; omega
theorem acts_exA : actsL [32, 2, 97, 98, 6] = exA := by
  rw [actsL_text (by decide)]
  show _ :: actsL [6] = _
  rw [actsL_far (by decide), actsL_nil]
  rfl
set_option maxRecDepth 100000 in
set_option maxHeartbeats 6400000 in
theorem sawk_any (w : World) (A : Option Addr) (c B : Nat) (h : CodOK w) (hr : Rd w B A ([1, 32, 2, 97, 98, 6].map (Value.int .u8))) (hB : B ≤ w.heap.size) (hc : 6 ≤ c) (hcm : c ≤ maxLen) :
    Calls Tryz.prog 73 #[.slice A 6 c] w fun e w' => ∃ Ao no co At ct f0 f1 f2, e = .returned (.tuple #[.agg #[.slice Ao no co, .int .i64 2, .slice At 2 ct, .int .i64 f0, .int .i64 f1, .int .i64 f2], .bool true]) ∧ Below w.heap.size w w' := by
  have hb1 := below_allocT w (.cells #[.slice none 0 0, .int .i64 0, .slice none 0 0, .int .i64 0, .int .i64 0, .int .i64 0] 146)
  have hn1 := Held.new w #[.slice none 0 0, .int .i64 0, .slice none 0 0, .int .i64 0, .int .i64 0, .int .i64 0] 146
  have hz1 : (w.alloc (.cells #[.slice none 0 0, .int .i64 0, .slice none 0 0, .int .i64 0, .int .i64 0, .int .i64 0] 146)).heap.size = w.heap.size + 1 := by simp
  obtain ⟨W1, hW1⟩ : ∃ W, w.alloc (.cells #[.slice none 0 0, .int .i64 0, .slice none 0 0, .int .i64 0, .int .i64 0, .int .i64 0] 146) = W := ⟨_, rfl⟩
  rw [hW1] at hb1 hn1 hz1
  obtain ⟨N, hN⟩ : ∃ N, w.heap.size = N := ⟨_, rfl⟩
  have hr1 : Rd W1 w.heap.size A (([1, 32, 2, 97, 98, 6] : List Int).map (Value.int .u8)) := hr.below (hb1.mono hB) hB
  obtain ⟨ad, hs1, had⟩ := tail1 A 6 c (by decide) hc (by unfold maxLen at hcm; omega)
  have hrt : Rd W1 w.heap.size ad (([32, 2, 97, 98, 6] : List Int).map (Value.int .u8)) := by
    rw [had]
    exact rd_drop hr1 1 (c := c) hc
  obtain ⟨b3, o3, rfl, hb3, hc3⟩ := rd_ints hr1 (by decide)
  have hx : W1.cell? ⟨b3, o3, none⟩ = some (.int .u8 1) := hc3 0 (by decide)
  have C1 := Lib.hid (spair_any W1 1 1 0 0 (by decide) (by decide) (by decide) (by decide) (by decide))
  have HO1 := Lib.hid (h.below hb1)
  rw [hN] at hn1 hz1
  have HN1 := Lib.hid hn1
  have HB1 := Lib.hid hb1
  have HZ1 := Lib.hid hz1
  have HNW := Lib.hid hN
  have HW1 := Lib.hid hW1
  have HRT := Lib.hid hrt
  obtain ⟨c1, hc1⟩ : ∃ x, c - 1 = x := ⟨_, rfl⟩
  rw [hc1, show 6 - 1 = 5 from rfl] at hs1
  have HC := Lib.hid (show 5 ≤ c1 ∧ c1 ≤ maxLen by omega)
  have E2 := Lib.hid (fun (W : World) (hW : CodOK W) => sopenY_any W (nmB 1) (nmB 0) 0 1 0 (nm_size 1 (by decide)) (nm_size 0 (by decide)) (nmLowS 1 (by decide)) (nmLowS 0 (by decide)) (by decide) (by decide) (by decide) (by decide) hW)
  obtain ⟨n1, hn1'⟩ : ∃ n, nmB 1 = n := ⟨_, rfl⟩
  obtain ⟨n0, hn0'⟩ : ∃ n, nmB 0 = n := ⟨_, rfl⟩
  rw [hn1', hn0'] at C1 E2
  clear h hr hB hc hcm hb1 hn1 hz1 hN hW1 hr1 had hrt hb3 hc3 hc1 hn1' hn0'
  go_enter Tryz.func73, Tryz.ntmps73
  go_upto_region 3 with fail
  rw [HW1.out, HNW.out]
  go_wp2_with fail
  refine C1.out.mono ?_
  rintro e w2 ⟨rfl, hb2⟩
  have HB2 := Lib.hid (HB1.out.trans (hb2.mono HB1.out.size))
  have HB12 := Lib.hid hb2
  have C2 := Lib.hid (E2.out w2 (HO1.out.below hb2))
  clear hb2 C1
  go_wp2_with fail
  refine C2.out.mono ?_
  rintro e w3 ⟨q, pd, p, rfl, hh, hq, hde, hb3⟩
  obtain ⟨G, F, hst, hFq⟩ := sts_newP (by decide) (by decide) (by decide) (by decide) hh hde
  have hft := hst.to.foot
  have HB3 := Lib.hid (HB2.out.trans (hb3.mono HB2.out.size))
  have HB13 := Lib.hid (HB12.out.trans (hb3.mono HB12.out.size))
  have C3 := Lib.hid (sacts_any w3 5 ad c1 [32, 2, 97, 98, 6] w.heap.size exA rfl (HRT.out.below (HB13.out.mono HB1.out.size) (Nat.le_refl _)) HB3.out.size HC.out.1 HC.out.2 (by decide) (by decide) acts_exA)
  have HST := Lib.hid hst
  have HFT := Lib.hid hft
  have HFQ := Lib.hid (show ∀ b, F b → N < b from fun b hb => by have h1 := hFq b hb; have h2 := HB12.out.size; have h3 := HZ1.out; omega)
  clear hh hq hde hb3 hst hft hFq C2
  go_wp2_with fail
  refine C3.out.mono ?_
  rintro e w4 ⟨v4, rfl, ho4, hb4⟩
  have HB4 := Lib.hid (HB3.out.trans (hb4.mono HB3.out.size))
  have HB14 := Lib.hid (HB13.out.trans (hb4.mono HB13.out.size))
  obtain ⟨A4, c4, hv4, -, -⟩ := ho4.form
  rw [show exA.length = 2 from rfl] at hv4
  subst hv4
  have hst4 := HST.out.stay hb4.size fun b hb => hb4.block b (HFT.out.2 b hb)
  have C4 := Lib.hid (srun_ex w4 q pd w3.heap.size c4 A4 G F hst4 HFT.out.2 ho4 hb4.size)
  clear ho4 hb4 hst4 C3
  go_wp2_with fail
  refine C4.out.mono ?_
  rintro e w5 ⟨Ao, co, At, ct, rfl, hm5⟩
  have hb5 : Below w.heap.size w4 w5 := hm5.below (fun b hb => by have := HFQ.out b (HFT.out.1 b hb); have := HNW.out; omega) HB4.out.size
  have hn4 := HN1.out.below HB14.out HN1.out.lt
  have hn5 : Held w5 N #[.slice none 0 0, .int .i64 0, .slice none 0 0, .int .i64 0, .int .i64 0, .int .i64 0] 146 := (hm5.block N hn4.lt (fun hx => by have := HFQ.out N (HFT.out.1 N hx); omega)).trans hn4
  have HB5 := Lib.hid (HB4.out.trans hb5)
  have HTN := Lib.hid (thereS hn5 0 6 (by show 6 ≤ 6; omega))
  have HN5 := Lib.hid hn5
  clear hm5 hb5 hn4 hn5 C4
  rw [show RpC (.slice Ao 2 co) 2 (.slice At 2 ct) F0 = #[.slice Ao 2 co, .int .i64 2, .slice At 2 ct, .int .i64 0, .int .i64 0, .int .i64 0] from rfl]
  go_wp2_with (refine wpList_store_midW rfl _ _ _ rfl N 0 #[.slice Ao 2 co, .int .i64 2, .slice At 2 ct, .int .i64 0, .int .i64 0, .int .i64 0] rfl rfl HTN.out (by kernel_rfl) (by simp [Value.oneCell']) ?_)
  intro W6 hW6
  have hw6 : w5.setCells N 0 [.slice Ao 2 co, .int .i64 2, .slice At 2 ct, .int .i64 0, .int .i64 0, .int .i64 0] = W6 := hW6.out
  have hg6 := grown_setCells [.slice Ao 2 co, .int .i64 2, .slice At 2 ct, .int .i64 0, .int .i64 0, .int .i64 0] w5 N 0
  have hN6 := held_setCells [.slice Ao 2 co, .int .i64 2, .slice At 2 ct, .int .i64 0, .int .i64 0, .int .i64 0] w5 N 0 _ _ HN5.out
  rw [show setAr #[.slice none 0 0, .int .i64 0, .slice none 0 0, .int .i64 0, .int .i64 0, .int .i64 0] 0 [.slice Ao 2 co, .int .i64 2, .slice At 2 ct, .int .i64 0, .int .i64 0, .int .i64 0] = #[.slice Ao 2 co, .int .i64 2, .slice At 2 ct, .int .i64 0, .int .i64 0, .int .i64 0] by simp [setAr]] at hN6
  rw [hw6] at hg6 hN6
  have HN6 := Lib.hid hN6
  have HB6 := Lib.hid (below_rowT HB5.out hg6 (fun b e => by injection e with e; have := HNW.out; omega) HB5.out.size)
  clear hg6 hN6 hW6 hw6
  go_wp2_with fail
  refine rep_ret2 (g := N) rfl rfl HN6.out rfl rfl rfl ?_
  exact ⟨Ao, 2, co, At, ct, 0, 0, 0, rfl, HB6.out⟩
/-- package script as it landed keeps the contracts -/
def theScr : ScrApi where
  OK := CodOK
  nm := nmB
  nm0 := rfl
  nm1 := rfl
  names := fun w h => by
    refine (cnames_any w).mono ?_
    rintro e w' ⟨rfl, rfl⟩
    exact ⟨_, _, rfl, fun j hj => names_cell w j hj, below_allocT w _⟩
  keep := fun h hb => h.below hb
  pair := fun w z k1 k2 pol h0 h1 hk1 hk2 hp _ => spair_any w z k1 k2 pol h0 h1 hk1 hk2 hp
  acts := fun w n A c us B az _ hn hr hB hc hcm hn9 hb ha => by
    refine (sacts_any w n A c us B az hn hr hB hc hcm hn9 hb ha).mono ?_
    rintro e w' ⟨v, rfl, ho, hb⟩
    exact ⟨v, rfl, ho.to, hb⟩
  awk := fun w A c B h hr hB hc hcm => sawk_any w A c B h hr hB hc hcm
end Go.Proofs.YtncpokioagpclaaGreatDoor
