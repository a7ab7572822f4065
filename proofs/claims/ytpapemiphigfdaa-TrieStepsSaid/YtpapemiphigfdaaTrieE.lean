/- Layer 4: the document's examples hold; the law's units. -/
import Derived.Test.YtpapemiphigfdaaTrieC
import Derived.Test.YtpapemiphigfdaaTrieS
namespace Go.Proofs.Ytpapemiphigfdaa
set_option linter.unusedVariables false
open Go.RowKit
theorem us_newL (w : World) (m : Nat) (hm : w.heap.size = m) (zs : List Int) (cs : Array Value) (hc : cs.toList = zs.map (Value.int .i64)) (n : Nat) (hn : n = zs.length) (hl : n ≤ maxLen) : Us (fun b => b = m) (w.alloc (.cells cs 3)) (.slice (some ⟨m, 0, none⟩) n n) zs := by
  subst hm hn
  refine ⟨_, _, rfl, Nat.le_refl _, hl, .inr ⟨w.heap.size, 0, rfl, by simp, rfl, fun j hj => ?_⟩⟩
  rw [Nat.zero_add, cell_of_row _ _ _ _ _ _ (heap_alloc_new w _), ← hc]
  simp
theorem Us.up {X : Nat → Prop} {w : World} {v : Value} {us : List Int} (h : Us X w v us) (o : Obj) {Y : Nat → Prop} (hY : ∀ b, b < w.heap.size → X b → Y b) : Us Y (w.alloc o) v us :=
  h.step (by simp) fun b hb hx => ⟨hY b hb hx, Below.heap_alloc w o b hb⟩
def awT : List Rl := [([1], [7]), ([1, 2, 3], [8])]
theorem awT_at (w : World) (s : Nat) (hs : w.heap.size = s) :
    RsAt (((((w.alloc (.cells #[.int .i64 1] 3)).alloc (.cells #[.int .i64 7] 3)).alloc (.cells #[.int .i64 1, .int .i64 2, .int .i64 3] 3)).alloc (.cells #[.int .i64 8] 3)).alloc (.cells #[.slice (some ⟨s, 0, none⟩) 1 1, .slice (some ⟨s + 1, 0, none⟩) 1 1, .slice (some ⟨s + 2, 0, none⟩) 3 3, .slice (some ⟨s + 3, 0, none⟩) 1 1] 41)) (s + 5) (some ⟨s + 4, 0, none⟩) 2 2 awT := by
  have u1 := (((((us_newL w s hs [1] #[.int .i64 1] rfl 1 rfl (by simp [maxLen])).up (.cells #[.int .i64 7] 3) (Y := (· < s + 5)) (fun b _ h => by omega)).up (.cells #[.int .i64 1, .int .i64 2, .int .i64 3] 3) (Y := (· < s + 5)) (fun b _ h => h)).up (.cells #[.int .i64 8] 3) (Y := (· < s + 5)) (fun b _ h => h)).up (.cells #[.slice (some ⟨s, 0, none⟩) 1 1, .slice (some ⟨s + 1, 0, none⟩) 1 1, .slice (some ⟨s + 2, 0, none⟩) 3 3, .slice (some ⟨s + 3, 0, none⟩) 1 1] 41) (Y := (· < s + 5)) (fun b _ h => h))
  have u2 := ((((us_newL (w.alloc (.cells #[.int .i64 1] 3)) (s + 1) (by simp [hs]) [7] #[.int .i64 7] rfl 1 rfl (by simp [maxLen])).up (.cells #[.int .i64 1, .int .i64 2, .int .i64 3] 3) (Y := (· < s + 5)) (fun b _ h => by omega)).up (.cells #[.int .i64 8] 3) (Y := (· < s + 5)) (fun b _ h => h)).up (.cells #[.slice (some ⟨s, 0, none⟩) 1 1, .slice (some ⟨s + 1, 0, none⟩) 1 1, .slice (some ⟨s + 2, 0, none⟩) 3 3, .slice (some ⟨s + 3, 0, none⟩) 1 1] 41) (Y := (· < s + 5)) (fun b _ h => h))
  have u3 := (((us_newL ((w.alloc (.cells #[.int .i64 1] 3)).alloc (.cells #[.int .i64 7] 3)) (s + 2) (by simp [hs]) [1, 2, 3] #[.int .i64 1, .int .i64 2, .int .i64 3] rfl 3 rfl (by simp [maxLen])).up (.cells #[.int .i64 8] 3) (Y := (· < s + 5)) (fun b _ h => by omega)).up (.cells #[.slice (some ⟨s, 0, none⟩) 1 1, .slice (some ⟨s + 1, 0, none⟩) 1 1, .slice (some ⟨s + 2, 0, none⟩) 3 3, .slice (some ⟨s + 3, 0, none⟩) 1 1] 41) (Y := (· < s + 5)) (fun b _ h => h))
  have u4 := ((us_newL (((w.alloc (.cells #[.int .i64 1] 3)).alloc (.cells #[.int .i64 7] 3)).alloc (.cells #[.int .i64 1, .int .i64 2, .int .i64 3] 3)) (s + 3) (by simp [hs]) [8] #[.int .i64 8] rfl 1 rfl (by simp [maxLen])).up (.cells #[.slice (some ⟨s, 0, none⟩) 1 1, .slice (some ⟨s + 1, 0, none⟩) 1 1, .slice (some ⟨s + 2, 0, none⟩) 3 3, .slice (some ⟨s + 3, 0, none⟩) 1 1] 41) (Y := (· < s + 5)) (fun b _ h => by omega))
  refine ⟨rfl, Nat.le_refl _, by simp [maxLen], _, Rd_newR _ _ _ (s + 4) (by simp [hs]), ?_⟩
  exact ⟨u1, u2, u3, u4, trivial⟩

set_option maxHeartbeats 3200000 in
theorem tawake_any (w : World) : Calls Try.prog 9 #[] w fun e w' => e = .returned (.bool true) ∧ Below w.heap.size w w' := by
  go_enter Try.func9, Try.ntmps9
  go_wp2_with fail
  refine (of_good 2 _ 2 awT (w.heap.size + 5) _ (awT_at w _ rfl) (by simp) (by decide)).mono ?_
  rintro e w1 ⟨T, ns, nV, oV, xs, ys, V, rfl, ho, ht, hb1⟩
  have hbl1 : Below w.heap.size w w1 := (((((Below.refl _ _).alloc (Nat.le_refl _) _).alloc (by simp) _).alloc (by simp; omega) _).alloc (by simp; omega) _).alloc (by simp; omega) _ |>.trans (hb1.mono (by simp; omega))
  have HTR := Lib.hid ho.at
  have HT := Lib.hid ht
  have hlen : ns.length = 4 := by rw [ht.len]; rfl
  have hs1 := hbl1.size
  obtain ⟨nd, hnd⟩ : ∃ nd, ns[0]? = some nd := ⟨_, List.getElem?_eq_getElem (by omega)⟩
  have hr0 : nd.rule = -1 := (ht.node 0 nd [] hnd rfl).rule
  have HL := Lib.hid hlen
  have HND := Lib.hid hnd
  have HR0 := Lib.hid hr0
  clear ho ht hb1 hlen hnd hr0
  go_wp2_with fail
  refine (tlongest_any _ w1.heap.size T awT ns _ (HTR.out.below ((Below.refl _ _).alloc (Nat.le_refl _) _) (Nat.le_refl _)) HT.out (by simp) (by decide) (by decide) 2 _ 2 [1, 2] (w1.heap.size + 1) rfl (Rd_newR w1 _ _ _ rfl) (by simp) (by simp) (by simp [maxLen]) 0 1 true (by decide)).mono ?_
  rintro e w2 ⟨rfl, hb2⟩
  have hb12 : Below w1.heap.size w1 w2 := ((Below.refl _ _).alloc (Nat.le_refl _) _).trans (hb2.mono (by simp))
  have hs2 := hb12.size
  clear hb2
  go_wp2_with fail
  refine (tlongest_any _ w1.heap.size T awT ns _ (HTR.out.below (hb12.alloc hs2 _) (Nat.le_refl _)) HT.out (by simp; omega) (by decide) (by decide) 4 _ 4 [1, 2, 3, 4] (w2.heap.size + 1) rfl (Rd_newR w2 _ _ _ rfl) (by simp) (by simp) (by simp [maxLen]) 1 3 false (by decide)).mono ?_
  rintro e w3 ⟨rfl, hb3⟩
  have hb13 : Below w1.heap.size w1 w3 := (hb12.alloc hs2 _).trans (hb3.mono (by simp; omega))
  clear hb3
  go_wp2_with fail
  refine (size_any w3 w1.heap.size T ns _ (HTR.out.below hb13 (Nat.le_refl _)) 4 HL.out).mono ?_
  rintro e w4 ⟨rfl, rfl⟩
  go_wp2_with fail
  refine (rule_at w4 w1.heap.size T ns _ (HTR.out.below hb13 (Nat.le_refl _)) 0 nd HND.out (-1) HR0.out).mono ?_
  rintro e w5 ⟨rfl, rfl⟩
  go_wp2
  go_ret
  exact ⟨rfl, hbl1.trans (hb13.mono hs1)⟩
end Go.Proofs.Ytpapemiphigfdaa
