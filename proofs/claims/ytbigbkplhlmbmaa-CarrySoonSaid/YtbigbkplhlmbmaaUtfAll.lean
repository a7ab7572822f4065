/- Contract of All of layer 1: the tokens of bytes. -/
import Derived.Test.YtbigbkplhlmbmaaUtfE
import Derived.Test.YtbigbkplhlmbmaaUtfM
namespace Go.Proofs.Ytbigbkplhlmbmaa
set_option linter.unusedVariables false
open Go.RowKit

/-- a token, as plain data -/
structure Tok where
  pos : Int
  size : Int
  err : Int
  out : List Int

/-- as Rd; the block's element type is T -/
def RdT (w : World) (B : Nat) (T : TypeId) (A : Option Addr) (xs : List Value) : Prop :=
  xs = [] ∨ ∃ b off c fr, A = some ⟨b, off, none⟩ ∧ b < B ∧ w.heap[b]? = some (.cells c T fr) ∧ ∀ j, j < xs.length → c[off + j]? = xs[j]?
theorem RdT.rd {w : World} {B : Nat} {T : TypeId} {A : Option Addr} {xs : List Value} (h : RdT w B T A xs) : Rd w B A xs := by
  rcases h with h | ⟨b, off, c, fr, h1, h2, h3, h4⟩
  · exact .inl h
  · exact .inr ⟨b, off, h1, h2, fun j hj => by rw [cell_of_row _ _ _ _ _ _ h3]; exact h4 j hj⟩
theorem RdT.keep {w w' : World} {B B' : Nat} {T : TypeId} {A : Option Addr} {xs : List Value} (h : RdT w B T A xs) (hB : B ≤ B') (hk : ∀ b c fr, b < B → w.heap[b]? = some (.cells c T fr) → w'.heap[b]? = w.heap[b]?) : RdT w' B' T A xs := by
  rcases h with h | ⟨b, off, c, fr, h1, h2, h3, h4⟩
  · exact .inl h
  · exact .inr ⟨b, off, c, fr, h1, by omega, (hk b c fr h2 h3).trans h3, h4⟩

/-- these cells are those of the tokens; what their Out lead to lies below block B -/
def Toks (w : World) (B : Nat) : List Value → List Tok → Prop
  | [], [] => True
  | a :: b :: s :: e :: xs, t :: ts => a = .int .i64 t.pos ∧ b = .int .i64 t.size ∧ (∃ A c, s = .slice A t.out.length c ∧ t.out.length ≤ c ∧ c ≤ maxLen ∧ RdT w B 3 A (t.out.map (Value.int .i64))) ∧ e = .int .i64 t.err ∧ Toks w B xs ts
  | _, _ => False

theorem Toks.keep {w w' : World} {B B' : Nat} (hB : B ≤ B') (hk : ∀ b c fr, b < B → w.heap[b]? = some (.cells c 3 fr) → w'.heap[b]? = w.heap[b]?) : ∀ {xs : List Value} {ts : List Tok}, Toks w B xs ts → Toks w' B' xs ts
  | [], [], _ => trivial
  | a :: b :: s :: e :: xs, t :: ts, ⟨h1, h2, ⟨A, c, h3, h4, h5, h6⟩, h7, h8⟩ => ⟨h1, h2, ⟨A, c, h3, h4, h5, h6.keep hB hk⟩, h7, Toks.keep hB hk h8⟩
theorem Toks.below {w w' : World} {B B' : Nat} {xs : List Value} {ts : List Tok} (h : Toks w B xs ts) (hb : Below B w w') (hB : B ≤ B') : Toks w' B' xs ts := h.keep hB fun b _ _ hl _ => hb.block b hl
theorem Toks.grown {w w' : World} {B B' base n size : Nat} {T : TypeId} {v : Value} {ys : List Value} {xs : List Value} {ts : List Tok} (h : Toks w B xs ts) (hw : B ≤ w.heap.size) (hB : B ≤ B') (ho : w.ownsRow base T size v n ys) (hT : T ≠ 3) (hg : w.grownBy w' v.ownBlock) : Toks w' B' xs ts :=
  h.keep hB fun b c fr hl hc => hg.block b (by omega) (fun e => by
    rcases ho.2 with ⟨rfl, _⟩ | ⟨g, cap, cur, rfl, _, hh, _⟩
    · simp [Value.ownBlock] at e
    · have : b = g := by simpa [Value.ownBlock] using e
      subst this
      rw [hh] at hc
      injection hc with hc
      injection hc with _ hc
      exact hT hc)
theorem Toks.length {w : World} {B : Nat} : ∀ {xs : List Value} {ts : List Tok}, Toks w B xs ts → xs.length = ts.length * 4
  | [], [], _ => rfl
  | a :: b :: s :: e :: xs, t :: ts, ⟨_, _, _, _, h8⟩ => by simp only [List.length_cons, Toks.length h8]; omega
theorem Toks.snoc {w : World} {B : Nat} {t : Tok} {A : Option Addr} {c : Nat} (h4 : t.out.length ≤ c) (h5 : c ≤ maxLen) (h6 : RdT w B 3 A (t.out.map (Value.int .i64))) :
    ∀ {xs : List Value} {ts : List Tok}, Toks w B xs ts → Toks w B (xs ++ [.int .i64 t.pos, .int .i64 t.size, .slice A t.out.length c, .int .i64 t.err]) (ts ++ [t])
  | [], [], _ => ⟨rfl, rfl, ⟨A, c, rfl, h4, h5, h6⟩, rfl, trivial⟩
  | a :: b :: s :: e :: xs, t' :: ts, ⟨g1, g2, g3, g4, g5⟩ => ⟨g1, g2, g3, g4, Toks.snoc h4 h5 h6 g5⟩
theorem Toks.cell {w : World} {B : Nat} : ∀ {xs : List Value} {ts : List Tok} (h : Toks w B xs ts) (k : Nat) (t : Tok), ts[k]? = some t →
    xs[k * 4]? = some (.int .i64 t.pos) ∧ xs[k * 4 + 1]? = some (.int .i64 t.size) ∧ (∃ A c, xs[k * 4 + 2]? = some (.slice A t.out.length c) ∧ t.out.length ≤ c ∧ c ≤ maxLen ∧ RdT w B 3 A (t.out.map (Value.int .i64))) ∧ xs[k * 4 + 3]? = some (.int .i64 t.err)
  | [], [], _, k, t, h => by simp at h
  | a :: b :: s :: e :: xs, t' :: ts, ⟨g1, g2, ⟨A, c, g3, g3'⟩, g4, g5⟩, 0, t, h => by
    obtain rfl : t' = t := by simpa using h
    subst g1 g2 g3 g4
    exact ⟨rfl, rfl, ⟨A, c, rfl, g3'⟩, rfl⟩
  | a :: b :: s :: e :: xs, t' :: ts, ⟨_, _, _, _, g5⟩, k + 1, t, h => by
    have := Toks.cell g5 k t (by simpa using h)
    have e0 : (k + 1) * 4 = k * 4 + 1 + 1 + 1 + 1 := by omega
    rw [e0]
    exact this

/-- the tokens of bytes, the first one at pos -/
def allF : Nat → Int → List Int → List Tok
  | 0, _, _ => []
  | _ + 1, _, [] => []
  | f + 1, at_, z :: zs => ⟨at_, (oneF (z :: zs)).2.1, (oneF (z :: zs)).2.2, if (oneF (z :: zs)).2.2 = 0 then [(oneF (z :: zs)).1] else []⟩ :: allF f (at_ + (oneF (z :: zs)).2.1) ((z :: zs).drop (oneF (z :: zs)).2.1.toNat)

theorem contF_n : ∀ (need : Nat) (r : List Int) (k s lo hi : Int), k ≤ (contF need r k s lo hi).2.1 ∧ (contF need r k s lo hi).2.1 ≤ k + r.length ∧ 0 ≤ (contF need r k s lo hi).2.2 ∧ (contF need r k s lo hi).2.2 ≤ 2
  | 0, r, k, s, lo, hi => by show k ≤ k ∧ k ≤ k + (r.length : Int) ∧ (0 : Int) ≤ 0 ∧ (0 : Int) ≤ 2; omega
  | n + 1, [], k, s, lo, hi => by show k ≤ k ∧ k ≤ k + (0 : Int) ∧ (0 : Int) ≤ 2 ∧ (2 : Int) ≤ 2; omega
  | n + 1, c :: r, k, s, lo, hi => by
    show k ≤ (if c < lo ∨ hi < c then (0, k, 1) else contF n r (k + 1) (s * 64 + c % 64) 128 191 : Int × Int × Int).2.1 ∧ (if c < lo ∨ hi < c then (0, k, 1) else contF n r (k + 1) (s * 64 + c % 64) 128 191 : Int × Int × Int).2.1 ≤ k + ((c :: r).length : Int) ∧ 0 ≤ (if c < lo ∨ hi < c then (0, k, 1) else contF n r (k + 1) (s * 64 + c % 64) 128 191 : Int × Int × Int).2.2 ∧ (if c < lo ∨ hi < c then (0, k, 1) else contF n r (k + 1) (s * 64 + c % 64) 128 191 : Int × Int × Int).2.2 ≤ 2
    have := contF_n n r (k + 1) (s * 64 + c % 64) 128 191
    simp only [List.length_cons]
    split
    · simp only; omega
    · omega
theorem oneF_n (z : Int) (zs : List Int) : 1 ≤ (oneF (z :: zs)).2.1 ∧ (oneF (z :: zs)).2.1 ≤ zs.length + 1 ∧ 0 ≤ (oneF (z :: zs)).2.2 ∧ (oneF (z :: zs)).2.2 ≤ 2 := by
  have h := contF_n ((leadF z).1.toNat - 1) zs 1 (z % (if (leadF z).1 = 2 then 32 else if (leadF z).1 = 3 then 16 else 8)) (leadF z).2.1 (leadF z).2.2
  have e : oneF (z :: zs) = if (leadF z).1 = 0 then (0, 1, 1) else if (leadF z).1 = 1 then (z, 1, 0) else contF ((leadF z).1.toNat - 1) zs 1 (z % (if (leadF z).1 = 2 then 32 else if (leadF z).1 = 3 then 16 else 8)) (leadF z).2.1 (leadF z).2.2 := rfl
  rw [e]
  generalize contF ((leadF z).1.toNat - 1) zs 1 (z % (if (leadF z).1 = 2 then 32 else if (leadF z).1 = 3 then 16 else 8)) (leadF z).2.1 (leadF z).2.2 = x at h
  by_cases h1 : (leadF z).1 = 0
  · rw [if_pos h1]; simp only; omega
  · rw [if_neg h1]
    by_cases h2 : (leadF z).1 = 1
    · rw [if_pos h2]; simp only; omega
    · rw [if_neg h2]; omega

theorem all_step {zs : List Int} {K f : Nat} {z s n er : Int} {done : List Tok} {t : Tok} (hfin : done ++ allF f K (zs.drop K) = allF zs.length 0 zs) (hd : zs.drop K = z :: zs.drop (K + 1)) (ho : oneF (zs.drop K) = (s, n, er)) (hf : zs.length - K ≤ f) (hn1 : 1 ≤ n) (hn2 : n ≤ zs.length - K) (hK : K < zs.length)
    (hdk : done.length ≤ K) (ht : t = ⟨K, n, er, if er = 0 then [s] else []⟩) :
    ∃ f' : Nat, zs.length - (K + n.toNat) ≤ f' ∧ (done ++ [t]) ++ allF f' ((K + n.toNat : Nat) : Int) (zs.drop (K + n.toNat)) = allF zs.length 0 zs := by
  obtain ⟨f', rfl⟩ : ∃ f', f = f' + 1 := ⟨f - 1, by omega⟩
  refine ⟨f', by omega, ?_⟩
  rw [← hfin, hd]
  rw [hd] at ho
  show _ = done ++ (⟨K, (oneF (z :: zs.drop (K + 1))).2.1, (oneF (z :: zs.drop (K + 1))).2.2, if (oneF (z :: zs.drop (K + 1))).2.2 = 0 then [(oneF (z :: zs.drop (K + 1))).1] else []⟩ :: allF f' ((K : Int) + (oneF (z :: zs.drop (K + 1))).2.1) ((z :: zs.drop (K + 1)).drop (oneF (z :: zs.drop (K + 1))).2.1.toNat))
  rw [ho, ht, ← hd, List.drop_drop]
  simp only
  rw [show (((K + n.toNat : Nat) : Int)) = (K : Int) + n from by omega]
  simp

theorem RdT_new (w : World) (cs : Array Value) (T : TypeId) (m : Nat) (hm : w.heap.size = m) : RdT (w.alloc (.cells cs T)) (m + 1) T (some ⟨m, 0, none⟩) cs.toList := by
  subst hm
  exact .inr ⟨w.heap.size, 0, cs, _, rfl, by omega, heap_alloc_new w _, fun j hj => by simp⟩
theorem toks_push {w1 W w2 : World} {base n c : Nat} {v : Value} {ys xs : List Value} {done : List Tok} {t : Tok} {A : Option Addr} (h : Toks w1 w1.heap.size xs done) (hb : Below w1.heap.size w1 W) (hA : RdT W W.heap.size 3 A (t.out.map (Value.int .i64))) (hc : t.out.length ≤ c) (hm : c ≤ maxLen)
    (ho : W.ownsRow base 41 4 v n ys) (hg : W.grownBy w2 v.ownBlock) : Toks w2 w2.heap.size (xs ++ [.int .i64 t.pos, .int .i64 t.size, .slice A t.out.length c, .int .i64 t.err]) (done ++ [t]) :=
  ((h.below hb hb.size).snoc hc hm hA).grown (Nat.le_refl _) hg.size ho (by decide) hg

theorem Rd_new' (w : World) (cs : Array Value) (t : TypeId) (m : Nat) (hm : w.heap.size = m) : Rd (w.alloc (.cells cs t)) (m + 1) (some ⟨m, 0, none⟩) cs.toList := by subst hm; exact Rd_new w cs t

theorem info44 : (Try.prog.info? 41).map (fun i => (i.zero, i.size, i.bytes)) = some (some (.agg #[.int .i64 0, .int .i64 0, .slice none 0 0, .int .i64 0]), 4, 48) := by kernel_rfl

set_option maxHeartbeats 800000 in
theorem all_any (A : Option Addr) (cap : Nat) (zs : List Int) (w : World) (hr : Rd w w.heap.size A (zs.map (Value.int .u8))) (hl : zs.length ≤ 8388608) (hc : zs.length ≤ cap) (hw : ∀ z ∈ zs, 0 ≤ z ∧ z ≤ 255) :
    Calls Try.prog 18 #[.slice A zs.length cap] w fun e w' => ∃ v xs, e = .returned v ∧ w'.ownsRow w.heap.size 41 4 v (allF zs.length 0 zs).length xs ∧ Toks w' w'.heap.size xs (allF zs.length 0 zs) ∧ Below w.heap.size w w' := by
  obtain ⟨i0, hi, hz0, hz1, hz2⟩ := info_parts info44
  have HR := Lib.hid hr
  have HW := Lib.hid hw
  clear hr hw
  go_enter Try.func18, Try.ntmps18
  go_wp2
  go_loopw [3, 4] (fun v k wr => ∃ (K f : Nat) (done : List Tok) (xs : List Value), K ≤ zs.length ∧ k = .int .i64 K ∧ wr.ownsRow w.heap.size 41 4 v done.length xs ∧ Toks wr wr.heap.size xs done ∧ done.length ≤ K ∧
      zs.length - K ≤ f ∧ done ++ allF f K (zs.drop K) = allF zs.length 0 zs ∧ Below w.heap.size w wr) (fun _ k _ => zs.length - (intOf k).toNat)
  case atStart => exact ⟨0, zs.length, [], [], by omega, rfl, World.ownsRow_nil _ _ _ _, trivial, by simp, by simp, by simp, Below.refl _ _⟩
  case round =>
    obtain ⟨K, f, done, xs, hK, rfl, hown, htok, hdk, hf, hfin, hb⟩ := hrel
    have HF := Lib.hid hfin
    clear hfin
    have HT := Lib.hid htok
    clear htok
    by_cases hKl : K = zs.length
    · have hall : done = allF zs.length 0 zs := by rw [← HF.out, hKl, List.drop_length]; cases f <;> simp [allF]
      have HA := Lib.hid hall
      have hKl' : ¬ K < zs.length := by omega
      clear hall hKl
      go_wp2
      go_ret
      exact ⟨_, xs, rfl, by rw [← HA.out]; exact hown, by rw [← HA.out]; exact HT.out, hb⟩
    have hKl' : K < zs.length := by omega
    obtain ⟨z, hdr⟩ : ∃ z, zs.drop K = z :: zs.drop (K + 1) := ⟨zs[K], List.drop_eq_getElem_cons hKl'⟩
    obtain ⟨s, n, er, hone⟩ : ∃ s n er, oneF (zs.drop K) = (s, n, er) := ⟨_, _, _, rfl⟩
    have hn := oneF_n z (zs.drop (K + 1))
    rw [← hdr, hone] at hn
    simp only [List.length_drop] at hn
    have hrd := Rd.drop (k := K) (cap := cap) (HR.out.below hb hb.size) (n := zs.length) (by simp) (by omega) hc
    rw [← List.map_drop] at hrd
    have HD := Lib.hid hdr
    have HO := Lib.hid hone
    clear hdr hone
    have hcapK : ¬ cap = K := by omega
    rw [if_neg hcapK] at hrd
    have HRD := Lib.hid hrd
    clear hrd
    have hn1 : 1 ≤ n := hn.1
    have hn2 : n ≤ zs.length - K := by omega
    have he0 : 0 ≤ er ∧ er ≤ 2 := hn.2.2
    clear hn
    have hK8 : zs.length ≤ 8388608 := hl
    by_cases hz : er = 0
    · subst hz
      go_wp2_with fail
      refine (one_at _ _ _ (zs.drop K) s n 0 _ (by simp) HRD.out (by simp; omega) (by simp; omega) (fun z hz => HW.out z (List.mem_of_mem_drop hz)) HO.out).mono ?_
      rintro e w1 ⟨rfl, hb1⟩
      go_wp2_with (at_builtin; refine wpList_app _ rfl _ _ 38 rfl w.heap.size 41 i0 _ 4 48 Try.underlying38 hi hz0 hz1 hz2 rfl (by decide) _ _ _ rfl ((((own_below hown hb1 (Nat.le_refl _)).alloc _).alloc _).alloc _) (w1.heap.size + 1 + 1 + 1) _ 1 1 [.int .i64 K, .int .i64 n, .slice (some ⟨w1.heap.size + 1, 0, none⟩) 1 1, .int .i64 0] rfl rfl ?c1 ?c2 ?c3 ?c4 ?c5 ?_)
      case c1 => exact Rd_new' _ _ _ _ (by simp)
      case c2 => intro u hu; simp at hu; rcases hu with rfl | rfl | rfl | rfl <;> rfl
      case c3 => simp only [maxLen]; omega
      case c4 => omega
      case c5 => have h1 := hb.size; have h2 := hb1.size; simp; omega
      intro v1 w2 hown2 hg2
      have R := all_step (t := ⟨K, n, 0, [s]⟩) HF.out HD.out HO.out hf hn1 hn2 hKl' hdk rfl
      obtain ⟨f', hf', hR⟩ := R
      have hbW : Below w1.heap.size w1 (((w1.alloc (.cells #[.int .i64 K, .int .i64 n, .slice (some ⟨w1.heap.size + 1, 0, none⟩) 1 1, .int .i64 0] 41)).alloc (.cells #[.int .i64 s] 3)).alloc (.cells #[.int .i64 K, .int .i64 n, .slice (some ⟨w1.heap.size + 1, 0, none⟩) 1 1, .int .i64 0] 41)) :=
        (((Below.refl _ _).alloc (Nat.le_refl _) _).alloc (by simp) _).alloc (by simp; omega) _
      have hA := (RdT_new (w1.alloc (.cells #[.int .i64 K, .int .i64 n, .slice (some ⟨w1.heap.size + 1, 0, none⟩) 1 1, .int .i64 0] 41)) #[.int .i64 s] 3 (w1.heap.size + 1) (by simp))
      have hT2 := toks_push (t := ⟨K, n, 0, [s]⟩) (c := 1) (HT.out.below hb1 hb1.size) hbW (hA.keep (by simp) (fun b c fr hl hc => Below.heap_alloc _ _ _ (by simp; omega))) (by simp) (by simp [maxLen]) ((((own_below hown hb1 (Nat.le_refl _)).alloc _).alloc _).alloc _) hg2
      have hbE := (hb.trans (hb1.mono hb.size)).trans (below_own (B := w.heap.size) (hbW.mono (by have h1 := hb.size; have h2 := hb1.size; omega)) hg2 ((((own_below hown hb1 (Nat.le_refl _)).alloc _).alloc _).alloc _) (Nat.le_refl _) (by have h1 := hb.size; have h2 := hb1.size; simp; omega))
      have HR2 := Lib.hid hR
      clear hR
      go_wp2
      exact ⟨⟨K + n.toNat, f', done ++ [⟨K, n, 0, [s]⟩], _, by omega, by rw [show (((K + n.toNat : Nat)) : Int) = K + n from by omega], by simpa using hown2, hT2, by simp; omega, hf', HR2.out, hbE⟩, by simp [intOf]; omega⟩
    · have hz' : (er == 0) = false := beq_eq_false_iff_ne.2 hz
      go_wp2_with fail
      refine (one_at _ _ _ (zs.drop K) s n er _ (by simp) HRD.out (by simp; omega) (by simp; omega) (fun z hz => HW.out z (List.mem_of_mem_drop hz)) HO.out).mono ?_
      rintro e w1 ⟨rfl, hb1⟩
      go_wp2_with (at_builtin; refine wpList_app _ rfl _ _ 38 rfl w.heap.size 41 i0 _ 4 48 Try.underlying38 hi hz0 hz1 hz2 rfl (by decide) _ _ _ rfl (((own_below hown hb1 (Nat.le_refl _)).alloc _).alloc _) (w1.heap.size + 1 + 1) _ 1 1 [.int .i64 K, .int .i64 n, .slice none 0 0, .int .i64 er] rfl rfl ?c1 ?c2 ?c3 ?c4 ?c5 ?_)
      case c1 => exact Rd_new' _ _ _ _ (by simp)
      case c2 => intro u hu; simp at hu; rcases hu with rfl | rfl | rfl | rfl <;> rfl
      case c3 => simp only [maxLen]; omega
      case c4 => omega
      case c5 => have h1 := hb.size; have h2 := hb1.size; simp; omega
      intro v1 w2 hown2 hg2
      have R := all_step (t := ⟨K, n, er, []⟩) HF.out HD.out HO.out hf hn1 hn2 hKl' hdk (by rw [if_neg hz])
      obtain ⟨f', hf', hR⟩ := R
      have hbW : Below w1.heap.size w1 ((w1.alloc (.cells #[.int .i64 K, .int .i64 n, .slice none 0 0, .int .i64 er] 41)).alloc (.cells #[.int .i64 K, .int .i64 n, .slice none 0 0, .int .i64 er] 41)) :=
        ((Below.refl _ _).alloc (Nat.le_refl _) _).alloc (by simp) _
      have hT2 := toks_push (t := ⟨K, n, er, []⟩) (A := none) (c := 0) (HT.out.below hb1 hb1.size) hbW (.inl rfl) (by simp) (by simp [maxLen]) (((own_below hown hb1 (Nat.le_refl _)).alloc _).alloc _) hg2
      have hbE := (hb.trans (hb1.mono hb.size)).trans (below_own (B := w.heap.size) (hbW.mono (by have h1 := hb.size; have h2 := hb1.size; omega)) hg2 (((own_below hown hb1 (Nat.le_refl _)).alloc _).alloc _) (Nat.le_refl _) (by have h1 := hb.size; have h2 := hb1.size; simp; omega))
      have HR2 := Lib.hid hR
      clear hR
      go_wp2
      exact ⟨⟨K + n.toNat, f', done ++ [⟨K, n, er, []⟩], _, by omega, by rw [show (((K + n.toNat : Nat)) : Int) = K + n from by omega], by simpa using hown2, hT2, by simp; omega, hf', HR2.out, hbE⟩, by simp [intOf]; omega⟩
end Go.Proofs.Ytbigbkplhlmbmaa
