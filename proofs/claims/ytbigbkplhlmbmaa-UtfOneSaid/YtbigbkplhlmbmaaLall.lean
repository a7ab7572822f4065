/- Layer 1: the law's own one and All, as contracts. -/
import Derived.Test.YtbigbkplhlmbmaaLone
namespace Go.Proofs.Ytbigbkplhlmbmaa
set_option linter.unusedVariables false
open Go.RowKit

theorem lone_at (n : Nat) (A : Option Addr) (cap : Nat) (zs : List Int) (s k e : Int) (w : World) (hn : n = zs.length) (hr : Rd w w.heap.size A (zs.map (Value.int .u8))) (hl : zs.length ≤ 140737488355300) (hc : zs.length ≤ cap) (hw : ∀ z ∈ zs, 0 ≤ z ∧ z ≤ 255) (hf : oneF zs = (s, k, e)) :
    Calls Try.prog 16 #[.slice A n cap] w fun en w' => en = .returned (.tuple #[.int .i64 s, .int .i64 k, .int .i64 e]) ∧ Below w.heap.size w w' := by
  subst hn
  by_cases h0 : zs.length = 0
  · obtain rfl : zs = [] := List.eq_nil_of_length_eq_zero h0
    refine (lone_nil A cap w).mono fun en w' ⟨h, hb⟩ => ?_
    rw [hf] at h
    exact ⟨h, hb⟩
  · obtain ⟨b, o, rfl, hb, hcl⟩ := rd_ints hr (by omega)
    refine (lone_some b o cap zs w (by omega) hcl hb hw hl hc).mono fun en w' ⟨h, hb⟩ => ?_
    rw [hf] at h
    exact ⟨h, hb⟩

set_option maxHeartbeats 800000 in
theorem allL_any (A : Option Addr) (cap : Nat) (zs : List Int) (w : World) (hr : Rd w w.heap.size A (zs.map (Value.int .u8))) (hl : zs.length ≤ 8388608) (hc : zs.length ≤ cap) (hw : ∀ z ∈ zs, 0 ≤ z ∧ z ≤ 255) :
    Calls Try.prog 24 #[.slice A zs.length cap] w fun e w' => ∃ v xs, e = .returned v ∧ w'.ownsRow w.heap.size 41 4 v (allF zs.length 0 zs).length xs ∧ Toks w' w'.heap.size xs (allF zs.length 0 zs) ∧ Below w.heap.size w w' := by
  obtain ⟨i0, hi, hz0, hz1, hz2⟩ := info_parts info44
  have HR := Lib.hid hr
  have HW := Lib.hid hw
  clear hr hw
  go_enter Try.func24, Try.ntmps24
  go_wp2
  go_loopw [3, 4] (fun v k wr => ∃ (K f : Nat) (done : List Tok) (xs : List Value), K ≤ zs.length ∧ k = .int .i64 K ∧ wr.ownsRow w.heap.size 41 4 v done.length xs ∧ Toks wr wr.heap.size xs done ∧ done.length ≤ K ∧
      zs.length - K ≤ f ∧ done ++ allF f K (zs.drop K) = allF zs.length 0 zs ∧ Below w.heap.size w wr) (fun _ k _ => zs.length - (intOf k).toNat)
  case atStart => exact ⟨0, zs.length, [], [], by omega, rfl, World.ownsRow_nil _ _ _ _, trivial, by simp, by simp, by simp, Below.refl _ _⟩
  case round =>
    obtain ⟨K, f, done, xs, hK, rfl, hown, htok, hdk, hf, hfin, hb⟩ := hrel
    have HF := Lib.hid hfin
    clear hfin
    have HT := Lib.hid htok
    clear htok
    by_cases hKl : K = zs.length
    · have hall : done = allF zs.length 0 zs := by rw [← HF.out, hKl, List.drop_length]; cases f <;> simp [allF]
      have HA := Lib.hid hall
      have hKl' : ¬ K < zs.length := by omega
      clear hall hKl
      go_wp2
      go_ret
      exact ⟨_, xs, rfl, by rw [← HA.out]; exact hown, by rw [← HA.out]; exact HT.out, hb⟩
    have hKl' : K < zs.length := by omega
    obtain ⟨z, hdr⟩ : ∃ z, zs.drop K = z :: zs.drop (K + 1) := ⟨zs[K], List.drop_eq_getElem_cons hKl'⟩
    obtain ⟨s, n, er, hone⟩ : ∃ s n er, oneF (zs.drop K) = (s, n, er) := ⟨_, _, _, rfl⟩
    have hn := oneF_n z (zs.drop (K + 1))
    rw [← hdr, hone] at hn
    simp only [List.length_drop] at hn
    have hrd := Rd.drop (k := K) (cap := cap) (HR.out.below hb hb.size) (n := zs.length) (by simp) (by omega) hc
    rw [← List.map_drop] at hrd
    have HD := Lib.hid hdr
    have HO := Lib.hid hone
    clear hdr hone
    have hcapK : ¬ cap = K := by omega
    rw [if_neg hcapK] at hrd
    have HRD := Lib.hid hrd
    clear hrd
    have hn1 : 1 ≤ n := hn.1
    have hn2 : n ≤ zs.length - K := by omega
    have he0 : 0 ≤ er ∧ er ≤ 2 := hn.2.2
    clear hn
    have hK8 : zs.length ≤ 8388608 := hl
    by_cases hz : er = 0
    · subst hz
      go_wp2_with fail
      refine (lone_at _ _ _ (zs.drop K) s n 0 _ (by simp) HRD.out (by simp; omega) (by simp; omega) (fun z hz => HW.out z (List.mem_of_mem_drop hz)) HO.out).mono ?_
      rintro e w1 ⟨rfl, hb1⟩
      go_wp2_with (at_builtin; refine wpList_app _ rfl _ _ 38 rfl w.heap.size 41 i0 _ 4 48 Try.underlying38 hi hz0 hz1 hz2 rfl (by decide) _ _ _ rfl ((((own_below hown hb1 (Nat.le_refl _)).alloc _).alloc _).alloc _) (w1.heap.size + 1 + 1 + 1) _ 1 1 [.int .i64 K, .int .i64 n, .slice (some ⟨w1.heap.size + 1, 0, none⟩) 1 1, .int .i64 0] rfl rfl ?c1 ?c2 ?c3 ?c4 ?c5 ?_)
      case c1 => exact Rd_new' _ _ _ _ (by simp)
      case c2 => intro u hu; simp at hu; rcases hu with rfl | rfl | rfl | rfl <;> rfl
      case c3 => simp only [maxLen]; omega
      case c4 => omega
      case c5 => have h1 := hb.size; have h2 := hb1.size; simp; omega
      intro v1 w2 hown2 hg2
      have R := all_step (t := ⟨K, n, 0, [s]⟩) HF.out HD.out HO.out hf hn1 hn2 hKl' hdk rfl
      obtain ⟨f', hf', hR⟩ := R
      have hbW : Below w1.heap.size w1 (((w1.alloc (.cells #[.int .i64 K, .int .i64 n, .slice (some ⟨w1.heap.size + 1, 0, none⟩) 1 1, .int .i64 0] 41)).alloc (.cells #[.int .i64 s] 3)).alloc (.cells #[.int .i64 K, .int .i64 n, .slice (some ⟨w1.heap.size + 1, 0, none⟩) 1 1, .int .i64 0] 41)) :=
        (((Below.refl _ _).alloc (Nat.le_refl _) _).alloc (by simp) _).alloc (by simp; omega) _
      have hA := (RdT_new (w1.alloc (.cells #[.int .i64 K, .int .i64 n, .slice (some ⟨w1.heap.size + 1, 0, none⟩) 1 1, .int .i64 0] 41)) #[.int .i64 s] 3 (w1.heap.size + 1) (by simp))
      have hT2 := toks_push (t := ⟨K, n, 0, [s]⟩) (c := 1) (HT.out.below hb1 hb1.size) hbW (hA.keep (by simp) (fun b c fr hl hc => Below.heap_alloc _ _ _ (by simp; omega))) (by simp) (by simp [maxLen]) ((((own_below hown hb1 (Nat.le_refl _)).alloc _).alloc _).alloc _) hg2
      have hbE := (hb.trans (hb1.mono hb.size)).trans (below_own (B := w.heap.size) (hbW.mono (by have h1 := hb.size; have h2 := hb1.size; omega)) hg2 ((((own_below hown hb1 (Nat.le_refl _)).alloc _).alloc _).alloc _) (Nat.le_refl _) (by have h1 := hb.size; have h2 := hb1.size; simp; omega))
      have HR2 := Lib.hid hR
      clear hR
      go_wp2
      exact ⟨⟨K + n.toNat, f', done ++ [⟨K, n, 0, [s]⟩], _, by omega, by rw [show (((K + n.toNat : Nat)) : Int) = K + n from by omega], by simpa using hown2, hT2, by simp; omega, hf', HR2.out, hbE⟩, by simp [intOf]; omega⟩
    · have hz' : (er == 0) = false := beq_eq_false_iff_ne.2 hz
      go_wp2_with fail
      refine (lone_at _ _ _ (zs.drop K) s n er _ (by simp) HRD.out (by simp; omega) (by simp; omega) (fun z hz => HW.out z (List.mem_of_mem_drop hz)) HO.out).mono ?_
      rintro e w1 ⟨rfl, hb1⟩
      go_wp2_with (at_builtin; refine wpList_app _ rfl _ _ 38 rfl w.heap.size 41 i0 _ 4 48 Try.underlying38 hi hz0 hz1 hz2 rfl (by decide) _ _ _ rfl (((own_below hown hb1 (Nat.le_refl _)).alloc _).alloc _) (w1.heap.size + 1 + 1) _ 1 1 [.int .i64 K, .int .i64 n, .slice none 0 0, .int .i64 er] rfl rfl ?c1 ?c2 ?c3 ?c4 ?c5 ?_)
      case c1 => exact Rd_new' _ _ _ _ (by simp)
      case c2 => intro u hu; simp at hu; rcases hu with rfl | rfl | rfl | rfl <;> rfl
      case c3 => simp only [maxLen]; omega
      case c4 => omega
      case c5 => have h1 := hb.size; have h2 := hb1.size; simp; omega
      intro v1 w2 hown2 hg2
      have R := all_step (t := ⟨K, n, er, []⟩) HF.out HD.out HO.out hf hn1 hn2 hKl' hdk (by rw [if_neg hz])
      obtain ⟨f', hf', hR⟩ := R
      have hbW : Below w1.heap.size w1 ((w1.alloc (.cells #[.int .i64 K, .int .i64 n, .slice none 0 0, .int .i64 er] 41)).alloc (.cells #[.int .i64 K, .int .i64 n, .slice none 0 0, .int .i64 er] 41)) :=
        ((Below.refl _ _).alloc (Nat.le_refl _) _).alloc (by simp) _
      have hT2 := toks_push (t := ⟨K, n, er, []⟩) (A := none) (c := 0) (HT.out.below hb1 hb1.size) hbW (.inl rfl) (by simp) (by simp [maxLen]) (((own_below hown hb1 (Nat.le_refl _)).alloc _).alloc _) hg2
      have hbE := (hb.trans (hb1.mono hb.size)).trans (below_own (B := w.heap.size) (hbW.mono (by have h1 := hb.size; have h2 := hb1.size; omega)) hg2 (((own_below hown hb1 (Nat.le_refl _)).alloc _).alloc _) (Nat.le_refl _) (by have h1 := hb.size; have h2 := hb1.size; simp; omega))
      have HR2 := Lib.hid hR
      clear hR
      go_wp2
      exact ⟨⟨K + n.toNat, f', done ++ [⟨K, n, er, []⟩], _, by omega, by rw [show (((K + n.toNat : Nat)) : Int) = K + n from by omega], by simpa using hown2, hT2, by simp; omega, hf', HR2.out, hbE⟩, by simp [intOf]; omega⟩
theorem allL_own (n : Nat) (A : Option Addr) (cap : Nat) (zs : List Int) (w : World) (hn : n = zs.length) (hr : Rd w w.heap.size A (zs.map (Value.int .u8))) (hl : zs.length ≤ 8388608) (hc : zs.length ≤ cap) (hw : ∀ z ∈ zs, 0 ≤ z ∧ z ≤ 255) (ts : List Tok) (m : Nat) (ht : allF zs.length 0 zs = ts) (hm : ts.length = m) :
    Calls Try.prog 24 #[.slice A n cap] w fun e w' => ∃ A' c' xs, e = .returned (.slice A' m c') ∧ Rd w' w'.heap.size A' xs ∧ Toks w' w'.heap.size xs ts ∧ m ≤ c' ∧ c' ≤ maxLen ∧ Below w.heap.size w w' := by
  subst hn ht hm
  refine (allL_any A cap zs w hr hl hc hw).mono fun e w' h => ?_
  obtain ⟨v, xs, rfl, ho, ht, hb⟩ := h
  obtain ⟨A', c', rfl, h1, h2⟩ := own_form ho
  exact ⟨A', c', xs, rfl, Rd.own ho, ht, h1, h2, hb⟩
end Go.Proofs.Ytbigbkplhlmbmaa
