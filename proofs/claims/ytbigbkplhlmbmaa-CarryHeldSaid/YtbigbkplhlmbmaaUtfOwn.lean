/- Layer 1: contracts that hand back rows of their own; tokens of scalars' bytes; what One reads is sound; the law's own bytes. -/
import Derived.Test.YtbigbkplhlmbmaaUtfBytes
import Derived.Test.YtbigbkplhlmbmaaMix
namespace Go.Proofs.Ytbigbkplhlmbmaa
set_option linter.unusedVariables false
open Go.RowKit

/-- a new row behind a call of Put -/
theorem put_own (n : Nat) (A : Option Addr) (cap : Nat) (zs : List Int) (s : Int) (w : World) (hn : n = zs.length) (hr : Rd w w.heap.size A (zs.map (Value.int .u8))) (hl : zs.length ≤ 140737488355300) (hc : zs.length ≤ cap) (hs : scB s = true) (ys : List Int) (m : Nat) (hy : zs ++ encL s = ys) (hm : ys.length = m) :
    Calls Try.prog 14 #[.slice A n cap, .int .i64 s] w fun e w' => ∃ A' c', e = .returned (.slice A' m c') ∧ Rd w' w'.heap.size A' (ys.map (Value.int .u8)) ∧ m ≤ c' ∧ c' ≤ maxLen ∧ Below w.heap.size w w' := by
  subst hy hm
  refine (put_at n A cap zs s w hn hr hl hc rfl).mono fun e w' h => ?_
  obtain ⟨v, rfl, ho, hg⟩ := h
  have hf : fixS s = s := by simp [fixS, hs]
  rw [hf] at ho
  obtain ⟨A', c', rfl, h1, h2⟩ := own_form ho
  exact ⟨A', c', rfl, Rd.own ho, h1, h2, (Below.refl _ _).grown hg (Nat.le_refl _) (by simp)⟩

theorem strOfNums_list (xs : List Int) : (strOfNums xs).toList = xs.map fun n => UInt8.ofNat n.toNat := by rw [ByteArray.toList_eq]; exact strOfNums_data xs
theorem bytes_map_inj : ∀ {xs ys : List Int}, (∀ z ∈ xs, 0 ≤ z ∧ z ≤ 255) → (∀ z ∈ ys, 0 ≤ z ∧ z ≤ 255) → (xs.map fun n => UInt8.ofNat n.toNat) = (ys.map fun n => UInt8.ofNat n.toNat) → xs = ys
  | [], [], _, _, _ => rfl
  | [], _ :: _, _, _, h => by simp at h
  | _ :: _, [], _, _, h => by simp at h
  | x :: xs, y :: ys, hx, hy, h => by
    simp only [List.map_cons, List.cons.injEq] at h
    have hx0 := hx x (by simp)
    have hy0 := hy y (by simp)
    have h1 := congrArg UInt8.toNat h.1
    simp only [UInt8.toNat_ofNat'] at h1
    have e : x = y := by omega
    rw [e, bytes_map_inj (fun z hz => hx z (by simp [hz])) (fun z hz => hy z (by simp [hz])) h.2]
theorem str_eq {a b : Int} {ea eb : List Int} (ha : encL a = ea) (hb : encL b = eb) (h1 : scB a = true) (h2 : scB b = true) : true = (((strOfNums ea).toList == (strOfNums eb).toList) == (a == b)) := by
  by_cases h : a = b
  · subst h
    rw [← ha, ← hb]; simp
  · have hne : ¬ (strOfNums ea).toList = (strOfNums eb).toList := by
      rw [strOfNums_list, strOfNums_list]
      intro he
      have := bytes_map_inj (ha ▸ encL_bytes a h1) (hb ▸ encL_bytes b h2) he
      exact h (encL_inj h1 h2 (by rw [ha, hb, this]))
    rw [beq_eq_false_iff_ne.2 hne, beq_eq_false_iff_ne.2 h]; rfl

def tokS : Int → List Int → List Tok
  | _, [] => []
  | p, s :: ss => ⟨p, szI (fixS s), 0, [fixS s]⟩ :: tokS (p + szI (fixS s)) ss
theorem tokS_len : ∀ (p : Int) (ss : List Int), (tokS p ss).length = ss.length
  | _, [] => rfl
  | p, s :: ss => by simp [tokS, tokS_len]
theorem tokS_at : ∀ (p : Int) (ss : List Int) (k : Nat), k < ss.length → ∃ q n, (tokS p ss)[k]? = some ⟨q, n, 0, [fixS (ss.getD k 0)]⟩
  | _, [], k, h => by simp at h
  | p, s :: ss, 0, _ => ⟨_, _, rfl⟩
  | p, s :: ss, k + 1, h => by
    obtain ⟨q, n, e⟩ := tokS_at (p + szI (fixS s)) ss k (by simpa using h)
    exact ⟨q, n, by simpa [tokS] using e⟩
theorem allF_bytes : ∀ (ss : List Int) (f : Nat) (p : Int), (bytesF ss).length ≤ f → allF f p (bytesF ss) = tokS p ss
  | [], f, p, _ => by cases f <;> rfl
  | s :: ss, f, p, h => by
    have e : bytesF (s :: ss) = encL (fixS s) ++ bytesF ss := rfl
    have hp := encL_pos (fixS s)
    have hz := encL_sz (fixS s) (fixS_sc s)
    obtain ⟨z, zs, hzs⟩ : ∃ z zs, encL (fixS s) = z :: zs := by
      cases h : encL (fixS s) with
      | nil => rw [h] at hp; cases hp
      | cons z zs => exact ⟨z, zs, rfl⟩
    rw [e, List.length_append] at h
    obtain ⟨f', rfl⟩ : ∃ f', f = f' + 1 := ⟨f - 1, by omega⟩
    have ho := one_enc (fixS s) (fixS_sc s) (bytesF ss)
    rw [e]
    have hd : (encL (fixS s) ++ bytesF ss).drop (szI (fixS s)).toNat = bytesF ss := by
      rw [← hz]; simp
    rw [hzs, List.cons_append] at ho hd ⊢
    show (⟨p, (oneF (z :: (zs ++ bytesF ss))).2.1, (oneF (z :: (zs ++ bytesF ss))).2.2, if (oneF (z :: (zs ++ bytesF ss))).2.2 = 0 then [(oneF (z :: (zs ++ bytesF ss))).1] else []⟩ :: allF f' (p + (oneF (z :: (zs ++ bytesF ss))).2.1) ((z :: (zs ++ bytesF ss)).drop (oneF (z :: (zs ++ bytesF ss))).2.1.toNat) : List Tok) = _
    rw [ho]
    simp only [if_true]
    rw [hd, allF_bytes ss f' _ (by omega)]
    rfl

theorem bytes_own (n : Nat) (A : Option Addr) (cap : Nat) (ss : List Int) (w : World) (hn : n = ss.length) (hr : Rd w w.heap.size A (ss.map (Value.int .i64))) (hl : ss.length ≤ 1048576) (hc : ss.length ≤ cap) (zs : List Int) (m : Nat) (hz : bytesF ss = zs) (hm : zs.length = m) :
    Calls Try.prog 17 #[.slice A n cap] w fun e w' => ∃ A' c', e = .returned (.slice A' m c') ∧ Rd w' w'.heap.size A' (zs.map (Value.int .u8)) ∧ m ≤ c' ∧ c' ≤ maxLen ∧ Below w.heap.size w w' := by
  subst hz hm
  refine (bytes_any n A cap ss w hn hr hl hc).mono fun e w' h => ?_
  obtain ⟨v, rfl, ho, hb⟩ := h
  obtain ⟨A', c', rfl, h1, h2⟩ := own_form ho
  exact ⟨A', c', rfl, Rd.own ho, h1, h2, hb⟩

theorem bytes_str {ss : List Int} {k : Nat} : (strOfNums (bytesF (ss.take k)) ++ strOfNums (bytesF (ss.drop k))).toList == (strOfNums (bytesF ss)).toList := by
  have h : bytesF ss = bytesF (ss.take k) ++ bytesF (ss.drop k) := by
    rw [bytesF, bytesF, bytesF, ← List.flatMap_append, List.take_append_drop]
  rw [h, ByteArray.toList_eq, ByteArray.toList_eq]
  simp [strOfNums]

theorem all_own (n : Nat) (A : Option Addr) (cap : Nat) (zs : List Int) (w : World) (hn : n = zs.length) (hr : Rd w w.heap.size A (zs.map (Value.int .u8))) (hl : zs.length ≤ 8388608) (hc : zs.length ≤ cap) (hw : ∀ z ∈ zs, 0 ≤ z ∧ z ≤ 255) (ts : List Tok) (m : Nat) (ht : allF zs.length 0 zs = ts) (hm : ts.length = m) :
    Calls Try.prog 18 #[.slice A n cap] w fun e w' => ∃ A' c' xs, e = .returned (.slice A' m c') ∧ Rd w' w'.heap.size A' xs ∧ Toks w' w'.heap.size xs ts ∧ m ≤ c' ∧ c' ≤ maxLen ∧ Below w.heap.size w w' := by
  subst hn ht hm
  refine (all_any A cap zs w hr hl hc hw).mono fun e w' h => ?_
  obtain ⟨v, xs, rfl, ho, ht, hb⟩ := h
  obtain ⟨A', c', rfl, h1, h2⟩ := own_form ho
  exact ⟨A', c', xs, rfl, Rd.own ho, ht, h1, h2, hb⟩
theorem toks_at {w : World} {B : Nat} {A : Option Addr} {xs : List Value} {ts : List Tok} (hr : Rd w B A xs) (ht : Toks w B xs ts) (hn : 0 < ts.length) :
    ∃ b off, A = some ⟨b, off, none⟩ ∧ b < B ∧ ∀ k t, ts[k]? = some t → w.cell? ⟨b, off + k * 4, none⟩ = some (.int .i64 t.pos) ∧ w.cell? ⟨b, off + k * 4 + 1, none⟩ = some (.int .i64 t.size) ∧
      (∃ A' c', w.cell? ⟨b, off + k * 4 + 2, none⟩ = some (.slice A' t.out.length c') ∧ t.out.length ≤ c' ∧ c' ≤ maxLen ∧ Rd w B A' (t.out.map (Value.int .i64))) ∧ w.cell? ⟨b, off + k * 4 + 3, none⟩ = some (.int .i64 t.err) := by
  have hlen := Toks.length ht
  rcases hr with h | ⟨b, off, h1, h2, h3⟩
  · rw [h] at hlen; simp only [List.length_nil] at hlen; omega
  · refine ⟨b, off, h1, h2, fun k t hk => ?_⟩
    have hkl : k < ts.length := by
      rcases Nat.lt_or_ge k ts.length with h | h
      · exact h
      · rw [List.getElem?_eq_none h] at hk; cases hk
    obtain ⟨g1, g2, ⟨A', c', g3, g4, g5, g6⟩, g7⟩ := Toks.cell ht k t hk
    refine ⟨(h3 (k * 4) (by omega)).trans g1, ?_, ⟨A', c', ?_, g4, g5, g6.rd⟩, ?_⟩
    · rw [Nat.add_assoc]; exact (h3 (k * 4 + 1) (by omega)).trans g2
    · rw [Nat.add_assoc]; exact (h3 (k * 4 + 2) (by omega)).trans g3
    · rw [Nat.add_assoc]; exact (h3 (k * 4 + 3) (by omega)).trans g7

theorem below_drewN' (w : World) {B : Nat} (n : Nat) : Below B w (w.drewN n) := ⟨rfl, rfl, rfl, Nat.le_refl _, fun _ _ => rfl⟩

theorem contF_sound : ∀ (need : Nat) (r : List Int) (k s lo hi : Int) (S n : Int), contF need r k s lo hi = (S, n, 0) → ∃ c : List Int, c.length = need ∧ n = k + need ∧ r.take need = c ∧ (∀ z ∈ c.drop 1, 128 ≤ z ∧ z ≤ 191) ∧ (∀ z, c.head? = some z → lo ≤ z ∧ z ≤ hi) ∧ S = c.foldl (fun a z => a * 64 + z % 64) s
  | 0, r, k, s, lo, hi, S, n, h => by
    injection h with h1 h2
    injection h2 with h2 _
    exact ⟨[], rfl, by omega, by simp, by simp, by simp, h1.symm⟩
  | m + 1, [], k, s, lo, hi, S, n, h => by
    injection h with h1 h2
    injection h2 with h2 h3
    cases h3
  | m + 1, c :: r, k, s, lo, hi, S, n, h => by
    have e : contF (m + 1) (c :: r) k s lo hi = if c < lo ∨ hi < c then (0, k, 1) else contF m r (k + 1) (s * 64 + c % 64) 128 191 := rfl
    rw [e] at h
    by_cases hb : c < lo ∨ hi < c
    · rw [if_pos hb] at h
      injection h with h1 h2
      injection h2 with h2 h3
      cases h3
    · rw [if_neg hb] at h
      obtain ⟨d, d1, d2, d3, d4, d5, d6⟩ := contF_sound m r (k + 1) (s * 64 + c % 64) 128 191 S n h
      refine ⟨c :: d, by simp [d1], by push_cast; omega, by simp [d3], ?_, ?_, by simpa using d6⟩
      · intro z hz
        simp only [List.drop_succ_cons, List.drop_zero] at hz
        cases d with
        | nil => cases hz
        | cons y d =>
          rcases List.mem_cons.1 hz with rfl | hz
          · exact d5 z rfl
          · exact d4 z (by simpa using hz)
      · intro z hz
        obtain rfl : c = z := by simpa using hz
        omega

theorem sound2 (c : Int) (r : List Int) (s n : Int) (h0 : 194 ≤ c) (h1 : c < 224) (hl : leadF c = (2, 128, 191))
    (h : (if (leadF c).1 = 0 then (0, 1, 1) else if (leadF c).1 = 1 then (c, 1, 0) else contF ((leadF c).1.toNat - 1) r 1 (c % (if (leadF c).1 = 2 then 32 else if (leadF c).1 = 3 then 16 else 8)) (leadF c).2.1 (leadF c).2.2) = (s, n, 0)) :
    scB s = true ∧ (c :: r).take n.toNat = encL s := by
  rw [hl] at h
  change contF 1 r 1 (c % 32) (128) (191) = (s, n, 0) at h
  obtain ⟨d, d1, d2, d3, d4, d5, d6⟩ := contF_sound 1 r 1 (c % 32) _ _ s n h
  match d, d1 with
  | [x], _ =>
    have b1 := d5 x rfl
    simp only [List.foldl_cons, List.foldl_nil] at d6
    have hr : r = x :: r.drop 1 := by
      have h2 := (List.take_append_drop 1 r).symm
      rw [d3] at h2
      exact h2
    have hn : n.toNat = 2 := by omega
    clear d3 d4 d5 h
    have hx : 128 ≤ x ∧ x ≤ 191 := by exact b1
    clear b1
    refine ⟨scB_t.2 (by omega), ?_⟩
    rw [hn, hr]
    unfold encL
    rw [if_neg (by omega), if_pos (by omega)]
    show [c, x] = _
    subst d6
    congr 1
    · omega
    · congr 1
      · omega

theorem sound3 (c : Int) (r : List Int) (s n : Int) (h0 : 224 ≤ c) (h1 : c < 240) (hl : leadF c = (3, if c = 224 then 160 else 128, if c = 237 then 159 else 191))
    (h : (if (leadF c).1 = 0 then (0, 1, 1) else if (leadF c).1 = 1 then (c, 1, 0) else contF ((leadF c).1.toNat - 1) r 1 (c % (if (leadF c).1 = 2 then 32 else if (leadF c).1 = 3 then 16 else 8)) (leadF c).2.1 (leadF c).2.2) = (s, n, 0)) :
    scB s = true ∧ (c :: r).take n.toNat = encL s := by
  rw [hl] at h
  change contF 2 r 1 (c % 16) (if c = 224 then 160 else 128) (if c = 237 then 159 else 191) = (s, n, 0) at h
  obtain ⟨d, d1, d2, d3, d4, d5, d6⟩ := contF_sound 2 r 1 (c % 16) _ _ s n h
  match d, d1 with
  | [x, y], _ =>
    have b1 := d5 x rfl
    have qy := d4 y (by simp)
    simp only [List.foldl_cons, List.foldl_nil] at d6
    have hr : r = x :: y :: r.drop 2 := by
      have h2 := (List.take_append_drop 2 r).symm
      rw [d3] at h2
      exact h2
    have hn : n.toNat = 3 := by omega
    clear d3 d4 d5 h
    have hx : 128 ≤ x ∧ x ≤ 191 ∧ (c = 224 → 160 ≤ x) ∧ (c = 237 → x ≤ 159) := by revert b1; split <;> split <;> intro b1 <;> omega
    clear b1
    refine ⟨scB_t.2 (by omega), ?_⟩
    rw [hn, hr]
    unfold encL
    rw [if_neg (by omega), if_neg (by omega), if_pos (by omega)]
    show [c, x, y] = _
    subst d6
    congr 1
    · omega
    · congr 1
      · omega
      · congr 1
        · omega

theorem sound4 (c : Int) (r : List Int) (s n : Int) (h0 : 240 ≤ c) (h1 : c < 245) (hl : leadF c = (4, if c = 240 then 144 else 128, if c = 244 then 143 else 191))
    (h : (if (leadF c).1 = 0 then (0, 1, 1) else if (leadF c).1 = 1 then (c, 1, 0) else contF ((leadF c).1.toNat - 1) r 1 (c % (if (leadF c).1 = 2 then 32 else if (leadF c).1 = 3 then 16 else 8)) (leadF c).2.1 (leadF c).2.2) = (s, n, 0)) :
    scB s = true ∧ (c :: r).take n.toNat = encL s := by
  rw [hl] at h
  change contF 3 r 1 (c % 8) (if c = 240 then 144 else 128) (if c = 244 then 143 else 191) = (s, n, 0) at h
  obtain ⟨d, d1, d2, d3, d4, d5, d6⟩ := contF_sound 3 r 1 (c % 8) _ _ s n h
  match d, d1 with
  | [x, y, z], _ =>
    have b1 := d5 x rfl
    have qy := d4 y (by simp)
    have qz := d4 z (by simp)
    simp only [List.foldl_cons, List.foldl_nil] at d6
    have hr : r = x :: y :: z :: r.drop 3 := by
      have h2 := (List.take_append_drop 3 r).symm
      rw [d3] at h2
      exact h2
    have hn : n.toNat = 4 := by omega
    clear d3 d4 d5 h
    have hx : 128 ≤ x ∧ x ≤ 191 ∧ (c = 240 → 144 ≤ x) ∧ (c = 244 → x ≤ 143) := by revert b1; split <;> split <;> intro b1 <;> omega
    clear b1
    refine ⟨scB_t.2 (by omega), ?_⟩
    rw [hn, hr]
    unfold encL
    rw [if_neg (by omega), if_neg (by omega), if_neg (by omega)]
    show [c, x, y, z] = _
    subst d6
    congr 1
    · omega
    · congr 1
      · omega
      · congr 1
        · omega
        · congr 1
          omega

/-- what One reads are just the scalar's bytes -/
theorem one_sound (zs : List Int) (s n : Int) (hw : ∀ z ∈ zs, 0 ≤ z ∧ z ≤ 255) (h : oneF zs = (s, n, 0)) : scB s = true ∧ zs.take n.toNat = encL s ∧ 1 ≤ n ∧ n ≤ zs.length := by
  cases zs with
  | nil => injection h with h1 h2; injection h2 with h2 h3; cases h3
  | cons c r =>
    have hn := oneF_n c r
    rw [h] at hn
    have hc := hw c (by simp)
    have e : oneF (c :: r) = if (leadF c).1 = 0 then (0, 1, 1) else if (leadF c).1 = 1 then (c, 1, 0) else contF ((leadF c).1.toNat - 1) r 1 (c % (if (leadF c).1 = 2 then 32 else if (leadF c).1 = 3 then 16 else 8)) (leadF c).2.1 (leadF c).2.2 := rfl
    rw [e] at h
    have key : scB s = true ∧ (c :: r).take n.toNat = encL s := by
      rcases leadF_cases c hc.1 hc.2 with q | q | q | q | q | q | q | q | q | q | q
      · have hl : leadF c = (1, 0, 0) := by unfold leadF; rw [if_pos q]
        rw [hl] at h
        injection h with h1 h2
        injection h2 with h2 _
        subst h1 h2
        exact ⟨scB_t.2 (by omega), by unfold encL; rw [if_pos q]; rfl⟩
      · have hl : leadF c = (0, 0, 0) := by unfold leadF; rw [if_neg (by omega), if_pos q.2]
        rw [hl] at h
        injection h with h1 h2
        injection h2 with h2 h3
        cases h3
      · exact sound2 c r s n q.1 q.2 (leadF_2 c q.1 q.2) h
      · exact sound3 c r s n (by omega) (by omega) (leadF_3 c (by omega) (by omega)) h
      · exact sound3 c r s n (by omega) (by omega) (leadF_3 c (by omega) (by omega)) h
      · exact sound3 c r s n (by omega) (by omega) (leadF_3 c (by omega) (by omega)) h
      · exact sound3 c r s n (by omega) (by omega) (leadF_3 c (by omega) (by omega)) h
      · exact sound4 c r s n (by omega) (by omega) (leadF_4 c (by omega) (by omega)) h
      · exact sound4 c r s n (by omega) (by omega) (leadF_4 c (by omega) (by omega)) h
      · exact sound4 c r s n (by omega) (by omega) (leadF_4 c (by omega) (by omega)) h
      · have hl : leadF c = (0, 0, 0) := by unfold leadF; rw [if_neg (by omega), if_neg (by omega), if_neg (by omega), if_neg (by omega), if_neg (by omega), if_neg (by omega), if_neg (by omega), if_neg (by omega), if_neg (by omega)]
        rw [hl] at h
        injection h with h1 h2
        injection h2 with h2 h3
        cases h3
    simp only at hn
    exact ⟨key.1, key.2, hn.1, by simp only [List.length_cons]; omega⟩

theorem contF_short : ∀ (need : Nat) (r : List Int) (k s lo hi : Int), (contF need r k s lo hi).2.2 = 2 → (contF need r k s lo hi).2.1 = k + r.length
  | 0, r, k, s, lo, hi, h => by cases h
  | n + 1, [], k, s, lo, hi, h => by show k = k + (0 : Int); omega
  | n + 1, c :: r, k, s, lo, hi, h => by
    have e : contF (n + 1) (c :: r) k s lo hi = if c < lo ∨ hi < c then (0, k, 1) else contF n r (k + 1) (s * 64 + c % 64) 128 191 := rfl
    rw [e] at h ⊢
    by_cases hb : c < lo ∨ hi < c
    · rw [if_pos hb] at h; cases h
    · rw [if_neg hb] at h ⊢
      rw [contF_short n r _ _ _ _ h, List.length_cons]; push_cast; omega
theorem oneF_short (z : Int) (zs : List Int) (h : (oneF (z :: zs)).2.2 = 2) : (oneF (z :: zs)).2.1 = zs.length + 1 := by
  have e : oneF (z :: zs) = if (leadF z).1 = 0 then (0, 1, 1) else if (leadF z).1 = 1 then (z, 1, 0) else contF ((leadF z).1.toNat - 1) zs 1 (z % (if (leadF z).1 = 2 then 32 else if (leadF z).1 = 3 then 16 else 8)) (leadF z).2.1 (leadF z).2.2 := rfl
  rw [e] at h ⊢
  by_cases h1 : (leadF z).1 = 0
  · rw [if_pos h1] at h; cases h
  · rw [if_neg h1] at h ⊢
    by_cases h2 : (leadF z).1 = 1
    · rw [if_pos h2] at h; cases h
    · rw [if_neg h2] at h ⊢
      rw [contF_short _ _ _ _ _ _ h]; omega

/-- one step of the tokens -/
theorem allF_step {f P : Nat} {zs : List Int} {t : Tok} {ts : List Tok} (h : t :: ts = allF f P (zs.drop P)) (hf : zs.length - P ≤ f) :
    ∃ s n e f', P < zs.length ∧ oneF (zs.drop P) = (s, n, e) ∧ t = ⟨P, n, e, if e = 0 then [s] else []⟩ ∧ 1 ≤ n ∧ P + n ≤ zs.length ∧ 0 ≤ e ∧ e ≤ 2 ∧ (e = 2 → P + n = zs.length) ∧ zs.length - (P + n.toNat) ≤ f' ∧ ts = allF f' ((P + n.toNat : Nat) : Int) (zs.drop (P + n.toNat)) := by
  have hP : P < zs.length := by
    rcases Nat.lt_or_ge P zs.length with h1 | h1
    · exact h1
    · rw [List.drop_of_length_le h1] at h
      cases f <;> cases h
  obtain ⟨f', rfl⟩ : ∃ f', f = f' + 1 := ⟨f - 1, by omega⟩
  have hd := List.drop_eq_getElem_cons hP
  obtain ⟨s, n, e, ho⟩ : ∃ s n e, oneF (zs.drop P) = (s, n, e) := ⟨_, _, _, rfl⟩
  have hn := oneF_n zs[P] (zs.drop (P + 1))
  have hs := oneF_short zs[P] (zs.drop (P + 1))
  rw [← hd, ho] at hn hs
  simp only [List.length_drop] at hn hs
  rw [hd] at h
  have e0 : allF (f' + 1) P (zs[P] :: zs.drop (P + 1)) = ⟨P, (oneF (zs[P] :: zs.drop (P + 1))).2.1, (oneF (zs[P] :: zs.drop (P + 1))).2.2, if (oneF (zs[P] :: zs.drop (P + 1))).2.2 = 0 then [(oneF (zs[P] :: zs.drop (P + 1))).1] else []⟩ :: allF f' ((P : Int) + (oneF (zs[P] :: zs.drop (P + 1))).2.1) ((zs[P] :: zs.drop (P + 1)).drop (oneF (zs[P] :: zs.drop (P + 1))).2.1.toNat) := rfl
  rw [e0, ← hd, ho] at h
  simp only at h
  injection h with h1 h2
  refine ⟨s, n, e, f', hP, ho, h1, hn.1, by omega, hn.2.2.1, hn.2.2.2, fun he => by have := hs he; omega, by omega, ?_⟩
  rw [h2, List.drop_drop, show (((P + n.toNat : Nat)) : Int) = P + n from by omega]

set_option maxHeartbeats 800000 in
theorem bytesL1 (s : Int) (w : World) (h0 : 0 ≤ s) (h1 : s < 128) :
    Calls Try.prog 11 #[.int .i64 s] w fun e w' => e = .returned (.string (strOfNums (encL s))) ∧ Below w.heap.size w w' := by
  have hcv := run_str (P := Try.prog) (w.alloc (.cells #[.int .u8 (s)] 5)) 23 9 5 Try.underlying23 Try.underlying5 Try.underlying9 _ (some ⟨w.heap.size, 0, none⟩) [s] 1 1 rfl (rd_new_ints w .u8 [s] 5 _ rfl)
  have hen : Hid (encL s = [s]) := by unfold encL; rw [if_pos (by omega)]; exact rfl
  go_enter Try.func11, Try.ntmps11
  go_wp2
  go_ret
  exact ⟨ret_str (by rw [hen.out]), (Below.refl _ _).alloc (Nat.le_refl _) _⟩

set_option maxHeartbeats 800000 in
theorem bytesL2 (s : Int) (w : World) (h0 : 128 ≤ s) (h1 : s < 2048) :
    Calls Try.prog 11 #[.int .i64 s] w fun e w' => e = .returned (.string (strOfNums (encL s))) ∧ Below w.heap.size w w' := by
  have hcv := run_str (P := Try.prog) (w.alloc (.cells #[.int .u8 (192 + s / 64), .int .u8 (128 + s % 64)] 5)) 23 9 5 Try.underlying23 Try.underlying5 Try.underlying9 _ (some ⟨w.heap.size, 0, none⟩) [192 + s / 64, 128 + s % 64] 2 2 rfl (rd_new_ints w .u8 [192 + s / 64, 128 + s % 64] 5 _ rfl)
  have hen : Hid (encL s = [192 + s / 64, 128 + s % 64]) := by unfold encL; rw [if_neg (by omega), if_pos (by omega)]; exact rfl
  go_enter Try.func11, Try.ntmps11
  go_wp2
  go_ret
  exact ⟨ret_str (by rw [hen.out]), (Below.refl _ _).alloc (Nat.le_refl _) _⟩

set_option maxHeartbeats 800000 in
theorem bytesL3 (s : Int) (w : World) (h0 : 2048 ≤ s) (h1 : s < 65536) :
    Calls Try.prog 11 #[.int .i64 s] w fun e w' => e = .returned (.string (strOfNums (encL s))) ∧ Below w.heap.size w w' := by
  have hcv := run_str (P := Try.prog) (w.alloc (.cells #[.int .u8 (224 + s / 4096), .int .u8 (128 + s / 64 % 64), .int .u8 (128 + s % 64)] 5)) 23 9 5 Try.underlying23 Try.underlying5 Try.underlying9 _ (some ⟨w.heap.size, 0, none⟩) [224 + s / 4096, 128 + s / 64 % 64, 128 + s % 64] 3 3 rfl (rd_new_ints w .u8 [224 + s / 4096, 128 + s / 64 % 64, 128 + s % 64] 5 _ rfl)
  have hen : Hid (encL s = [224 + s / 4096, 128 + s / 64 % 64, 128 + s % 64]) := by unfold encL; rw [if_neg (by omega), if_neg (by omega), if_pos (by omega)]; exact rfl
  go_enter Try.func11, Try.ntmps11
  go_wp2
  go_ret
  exact ⟨ret_str (by rw [hen.out]), (Below.refl _ _).alloc (Nat.le_refl _) _⟩

set_option maxHeartbeats 800000 in
theorem bytesL4 (s : Int) (w : World) (h0 : 65536 ≤ s) (h1 : s < 1114112) :
    Calls Try.prog 11 #[.int .i64 s] w fun e w' => e = .returned (.string (strOfNums (encL s))) ∧ Below w.heap.size w w' := by
  have hcv := run_str (P := Try.prog) (w.alloc (.cells #[.int .u8 (240 + s / 262144), .int .u8 (128 + s / 4096 % 64), .int .u8 (128 + s / 64 % 64), .int .u8 (128 + s % 64)] 5)) 23 9 5 Try.underlying23 Try.underlying5 Try.underlying9 _ (some ⟨w.heap.size, 0, none⟩) [240 + s / 262144, 128 + s / 4096 % 64, 128 + s / 64 % 64, 128 + s % 64] 4 4 rfl (rd_new_ints w .u8 [240 + s / 262144, 128 + s / 4096 % 64, 128 + s / 64 % 64, 128 + s % 64] 5 _ rfl)
  have hen : Hid (encL s = [240 + s / 262144, 128 + s / 4096 % 64, 128 + s / 64 % 64, 128 + s % 64]) := by unfold encL; rw [if_neg (by omega), if_neg (by omega), if_neg (by omega)]; exact rfl
  go_enter Try.func11, Try.ntmps11
  go_wp2
  go_ret
  exact ⟨ret_str (by rw [hen.out]), (Below.refl _ _).alloc (Nat.le_refl _) _⟩

theorem bytesL (s : Int) (w : World) (h : scB s = true) :
    Calls Try.prog 11 #[.int .i64 s] w fun e w' => e = .returned (.string (strOfNums (encL s))) ∧ Below w.heap.size w w' := by
  have hs := scB_t.1 h
  by_cases h1 : s < 128
  · exact bytesL1 s w (by omega) h1
  by_cases h2 : s < 2048
  · exact bytesL2 s w (by omega) h2
  by_cases h3 : s < 65536
  · exact bytesL3 s w (by omega) h3
  · exact bytesL4 s w (by omega) (by omega)

theorem str_app {xs ys : List Int} {b : ByteArray} (h : b = strOfNums ys) : ((strOfNums (xs ++ ys)).toList == (strOfNums xs ++ b).toList) = true := by
  subst h
  rw [strOfNums_list, ByteArray.toList_eq]
  simp [strOfNums]

theorem put_any_own (n : Nat) (A : Option Addr) (cap : Nat) (zs : List Int) (s : Int) (w : World) (hn : n = zs.length) (hr : Rd w w.heap.size A (zs.map (Value.int .u8))) (hl : zs.length ≤ 140737488355300) (hc : zs.length ≤ cap) (ys : List Int) (m : Nat) (hy : zs ++ encL (fixS s) = ys) (hm : ys.length = m) :
    Calls Try.prog 14 #[.slice A n cap, .int .i64 s] w fun e w' => ∃ A' c', e = .returned (.slice A' m c') ∧ Rd w' w'.heap.size A' (ys.map (Value.int .u8)) ∧ m ≤ c' ∧ c' ≤ maxLen ∧ Below w.heap.size w w' := by
  subst hy hm
  refine (put_at n A cap zs s w hn hr hl hc rfl).mono fun e w' h => ?_
  obtain ⟨v, rfl, ho, hg⟩ := h
  obtain ⟨A', c', rfl, h1, h2⟩ := own_form ho
  exact ⟨A', c', rfl, Rd.own ho, h1, h2, (Below.refl _ _).grown hg (Nat.le_refl _) (by simp)⟩

end Go.Proofs.Ytbigbkplhlmbmaa
