/- Texts of this seat, one behind the other: Ins. -/
import Derived.Test.YtncpokioagpclaaGreatDoorZ25
import Derived.Test.YtncpokioagpclaaGreatDoorZ4
import Derived.Shelf.Slices.Empties
namespace Go.Proofs.YtncpokioagpclaaGreatDoor
set_option linter.unusedVariables false
open Go.RowKit

theorem bsearch_any (n : Nat) (A : Option Addr) (c : Nat) (zs : List Int) (B : Nat) (w : World) (hn : n = zs.length) (hr : Rd w B A (zs.map (Value.int .i64))) (hs : zs.Pairwise (· < ·)) (hl : n < 4611686018427387904) (u : Int) (v : Nat) (b : Bool) (hv : posN zs u = v) (hb : decide (u ∈ zs) = b) :
    Calls Tryz.prog 158 #[.slice A n c, .int .i64 u] w fun e w' => e = .returned (.tuple #[.int .i64 v, .bool b]) ∧ ∃ q, w' = w.drewN q := by
  subst hn hv hb
  by_cases hz : zs = []
  · subst hz
    refine (show Calls Tryz.prog 158 #[.slice A 0 c, .int .i64 u] w _ from Any.slices_BinarySearch_int_empty laysBs A c u w).mono ?_
    rintro e w' ⟨rfl, rfl⟩
    exact ⟨by simp [posN], 0, rfl⟩
  · obtain ⟨b, off, rfl, _, hc⟩ := rd_ints hr (List.length_pos_iff.2 hz)
    refine (show Calls Tryz.prog 158 #[.slice (some ⟨b, off, none⟩) zs.length c, .int .i64 u] w _ from Any.slices_BinarySearch_int laysBs b off zs.length c zs u w (Nat.le_refl _) hl hc (by rw [List.take_length]; exact hs.imp (fun h => Int.le_of_lt h))).mono ?_
    rintro e w' ⟨rfl, hq⟩
    refine ⟨?_, hq⟩
    simp [posN]

def setA : Array Value → Nat → List Value → Array Value
  | c, _, [] => c
  | c, o, v :: r => setA (c.setIfInBounds o v) (o + 1) r
theorem setA_size : ∀ (vs : List Value) (c : Array Value) (o : Nat), (setA c o vs).size = c.size
  | [], _, _ => rfl
  | v :: r, c, o => by rw [setA, setA_size r]; simp
theorem setA_get : ∀ (vs : List Value) (c : Array Value) (o j : Nat), o + vs.length ≤ c.size → (setA c o vs)[j]? = if o ≤ j ∧ j < o + vs.length then vs[j - o]? else c[j]?
  | [], c, o, j, _ => by simp only [setA, List.length_nil]; rw [if_neg (by omega)]
  | v :: r, c, o, j, h => by
    simp only [List.length_cons] at h
    rw [setA, setA_get r _ _ _ (by simp; omega)]
    simp only [List.length_cons]
    by_cases h1 : j = o
    · subst h1
      rw [if_neg (by omega), if_pos (by omega)]
      simp [Array.getElem?_setIfInBounds]
      omega
    · by_cases h2 : o + 1 ≤ j ∧ j < o + 1 + r.length
      · rw [if_pos h2, if_pos (by omega), show j - o = (j - (o + 1)) + 1 from by omega, List.getElem?_cons_succ]
      · rw [if_neg h2, if_neg (by omega), Array.getElem?_setIfInBounds, if_neg (by omega)]
theorem heap_setA {g : Nat} {e : TypeId} : ∀ (vs : List Value) (o : Nat) (w : World) (c : Array Value), w.heap[g]? = some (.cells c e (0, 0)) → (w.setCells g o vs).heap[g]? = some (.cells (setA c o vs) e (0, 0))
  | [], _, _, _, h => h
  | v :: r, o, w, c, h => by
    rw [World.setCells, setA]
    exact heap_setA r _ _ _ (heap_setCell_same w g o c e v h)
theorem grown_setA {g : Nat} : ∀ (vs : List Value) (o : Nat) (w w0 : World), w0.grownBy w (some g) → w0.grownBy (w.setCells g o vs) (some g)
  | [], _, _, _, h => h
  | v :: r, o, w, w0, h => by
    rw [World.setCells]
    exact grown_setA r _ _ _ (grown_seq h ⟨rfl, rfl, rfl, by simp, fun k _ hk => heap_setCell_other w ⟨g, o, none⟩ k v (fun e => hk (by simp [e]))⟩)
theorem below_setA {g B : Nat} (hg : B ≤ g) : ∀ (vs : List Value) (o : Nat) (w w0 : World), Below B w0 w → Below B w0 (w.setCells g o vs)
  | [], _, _, _, h => h
  | v :: r, o, w, w0, h => by
    rw [World.setCells]
    exact below_setA hg r _ _ _ (h.setCell hg _)
theorem own_cells {w : World} {base g n cap : Nat} {e : TypeId} {xs : List Value} (h : w.ownsRow base e 1 (.slice (some ⟨g, 0, none⟩) n cap) n xs) :
    base ≤ g ∧ xs.length = n ∧ n ≤ cap ∧ cap ≤ maxLen ∧ ∃ cur, w.heap[g]? = some (.cells cur e (0, 0)) ∧ cur.size = cap ∧ ∀ j, j < n → cur[j]? = xs[j]? := by
  obtain ⟨h1, h2⟩ := h
  rcases h2 with ⟨h', _⟩ | ⟨g', cap', cur, h', hb, hg, hnc, hcm, hcs, ht⟩
  · simp at h'
  · simp only [Value.slice.injEq, Option.some.injEq, Addr.mk.injEq, and_true, true_and] at h'
    obtain ⟨rfl, rfl⟩ := h'
    refine ⟨hb, by omega, hnc, hcm, cur, hg, by omega, fun j hj => ?_⟩
    rw [← ht, List.getElem?_take, if_pos (by omega)]
    simp
theorem own_mk {w : World} {base g n cap : Nat} {e : TypeId} {xs : List Value} {cur : Array Value} (hb : base ≤ g) (hg : w.heap[g]? = some (.cells cur e (0, 0))) (hn : xs.length = n) (hnc : n ≤ cap) (hcm : cap ≤ maxLen) (hs : cur.size = cap) (hj : ∀ j, j < n → cur[j]? = xs[j]?) :
    w.ownsRow base e 1 (.slice (some ⟨g, 0, none⟩) n cap) n xs := by
  refine ⟨by omega, .inr ⟨g, cap, cur, rfl, hb, hg, hnc, hcm, by omega, ?_⟩⟩
  apply List.ext_getElem?
  intro j
  rw [List.getElem?_take]
  by_cases h : j < n * 1
  · rw [if_pos h, ← hj j (by omega)]; simp
  · rw [if_neg h, List.getElem?_eq_none (by omega)]
/-- what a list of ints is, as a row, where a row's cells are those of the list -/
theorem own_ins {w : World} {base g cap i : Nat} {zs : List Int} {u : Int} {e : TypeId} {cur : Array Value} (hi : i ≤ zs.length) (hb : base ≤ g) (hg : w.heap[g]? = some (.cells cur e (0, 0))) (hnc : zs.length + 1 ≤ cap) (hcm : cap ≤ maxLen) (hs : cur.size = cap)
    (hj : ∀ j, j < zs.length + 1 → cur[j]? = if j < i then (zs[j]?).map (Value.int .i64) else if j = i then some (.int .i64 u) else (zs[j - 1]?).map (Value.int .i64)) :
    OwnI .i64 e w base (.slice (some ⟨g, 0, none⟩) (zs.length + 1) cap) (insL zs i u) := by
  unfold OwnI
  rw [insL_len zs i u hi]
  refine own_mk hb hg (by rw [List.length_map, insL_len zs i u hi]) hnc hcm hs fun j hjl => ?_
  rw [hj j hjl, List.getElem?_map, insL_get zs i u hi]
  split
  · rfl
  · split <;> rfl
set_option maxHeartbeats 1600000 in
theorem insert_any (base : Nat) (v : Value) (zs : List Int) (i : Nat) (u : Int) (vb : Nat) (w : World) (ho : OwnI .i64 3 w base v zs) (hi : i ≤ zs.length) (hvb : w.heap[vb]? = some (.cells #[.int .i64 u] 3 (0, 0))) (hne : v.ownBlock ≠ some vb) (hl : zs.length ≤ 1000000) (hbs : base ≤ w.heap.size) :
    Calls Tryz.prog 159 #[v, .int .i64 i, .slice (some ⟨vb, 0, none⟩) 1 1] w fun e w' => ∃ v', e = .returned v' ∧ OwnI .i64 3 w' base v' (insL zs i u) ∧ w.grownBy w' v.ownBlock ∧ (v'.ownBlock = v.ownBlock ∨ v'.ownBlock = some w.heap.size) := by
  have hvs : ∀ j x, ([Value.int .i64 u] : List Value)[j]? = some x → w.cell? ⟨vb, 0 + j, none⟩ = some x := by
    intro j x hj
    match j with
    | 0 => (obtain rfl : Value.int .i64 u = x := by simpa using hj); rw [cell_of_row _ _ _ _ _ _ hvb]; rfl
    | k + 1 => simp at hj
  have h1v : ∀ x ∈ ([Value.int .i64 u] : List Value), x.oneCell' = true := by intro x hx; simp at hx; subst hx; rfl
  have hml : ∀ x ∈ zs.map (Value.int .i64), x.oneCell' = true := ints_one _ _
  have hgr : ∀ (C : Nat) (ROW : Array Value), w.grownBy (w.drew.alloc (.cells ROW 3)) v.ownBlock := fun _ ROW => ⟨rfl, rfl, rfl, by simp, fun k hk _ => Below.heap_alloc w.drew _ k hk⟩
  have endgrow : ∀ (A : Option Addr) (c : Nat), v = .slice A zs.length c → zs.length ≤ c → c < zs.length + 1 → (A = none → zs.length = 0) → (∀ a, A = some a → ∀ j x, (zs.map (Value.int .i64))[j]? = some x → w.cell? (a.add j) = some x) →
      Calls Tryz.prog 159 #[v, .int .i64 zs.length, .slice (some ⟨vb, 0, none⟩) 1 1] w fun e w' => ∃ v', e = .returned v' ∧ OwnI .i64 3 w' base v' (insL zs zs.length u) ∧ w.grownBy w' v.ownBlock ∧ (v'.ownBlock = v.ownBlock ∨ v'.ownBlock = some w.heap.size) := by
    intro A c hv hnc hroom hnil hcs
    subst hv
    refine (show Calls Tryz.prog 159 #[.slice A zs.length c, .int .i64 zs.length, .slice (some ⟨vb, 0, none⟩) 1 1] w _ from Any2.slices_Insert_int_end_grow laysIns A zs.length c vb 0 1 1 (zs.map (Value.int .i64)) [.int .i64 u] w (by omega) hnc hroom (by omega) (by simp) rfl hnil hcs hvs h1v).mono ?_
    rintro e w' ⟨rfl, rfl⟩
    have hge := grownCap_ge w (zs.length + 1) c (laysIns_ren.t 3)
    have hle := grownCap_le_maxLen w (zs.length + 1) c (laysIns_ren.t 3) (by unfold maxLen; omega)
    refine ⟨_, rfl, own_ins (Nat.le_refl _) hbs (heap_alloc_new w.drew _) hge hle ?_ ?_, hgr 0 _, .inr rfl⟩
    · simp [Builtin.zeroCells, Value.cells]; omega
    · intro j hj
      rw [Array.getElem?_append, if_pos (by simp; omega)]
      by_cases h : j < zs.length
      · rw [if_pos h]; simp [List.getElem?_append, h]
      · obtain rfl : j = zs.length := by omega
        rw [if_neg h, if_pos rfl]; simp
  rcases ho.2 with ⟨hv, h0⟩ | ⟨g, cap, cur0, hv, _⟩
  · subst hv
    have hz : zs = [] := List.eq_nil_of_length_eq_zero (by simpa using h0)
    subst hz
    obtain rfl : i = 0 := by simpa using hi
    exact endgrow none 0 (by simp) (by simp) (by simp) (by simp) (by simp)
  · have ho' : OwnI .i64 3 w base (.slice (some ⟨g, 0, none⟩) zs.length cap) zs := by rw [← hv]; exact ho
    obtain ⟨hb, _, hnc, hcm, cur, hg, hsz, hcur⟩ := own_cells ho'
    have hcurm : ∀ j, j < zs.length → cur[j]? = (zs[j]?).map (Value.int .i64) := fun j hj => by rw [hcur j hj, List.getElem?_map]
    have hcs : ∀ j x, (zs.map (Value.int .i64))[j]? = some x → w.cell? ⟨g, 0 + j, none⟩ = some x := by
      intro j x hj
      have hjl : j < zs.length := by
        rcases Nat.lt_or_ge j zs.length with h | h
        · exact h
        · rw [List.getElem?_eq_none (by simpa using h)] at hj; cases hj
      rw [Nat.zero_add, cell_of_row _ _ _ _ _ _ hg, hcur j hjl, hj]
    have hsp : ∀ j, j < cap → (w.cell? ⟨g, j, none⟩).isSome = true := by
      intro j hj
      rw [cell_of_row _ _ _ _ _ _ hg, Array.getElem?_eq_getElem (by omega)]; rfl
    have hfz : ∀ o, w.frozen? ⟨g, o, none⟩ = false := fun o => frozen_of_row _ _ _ _ _ hg
    have hob : v.ownBlock = some g := by rw [hv]; rfl
    by_cases hroom : zs.length + 1 ≤ cap
    · by_cases hin : i = zs.length
      · subst hin
        rw [hv]
        refine (show Calls Tryz.prog 159 #[.slice (some ⟨g, 0, none⟩) zs.length cap, .int .i64 zs.length, .slice (some ⟨vb, 0, none⟩) 1 1] w _ from Any2.slices_Insert_int_end_room laysIns g 0 zs.length cap vb 0 1 1 [.int .i64 u] w (by omega) hroom hcm rfl (fun j hj => hsp _ (by omega)) (fun j hj => hfz _) hvs h1v).mono ?_
        rintro e w' ⟨rfl, rfl⟩
        refine ⟨_, rfl, own_ins (Nat.le_refl _) hb (heap_setA _ _ _ _ hg) hroom hcm (by rw [setA_size, hsz]) ?_, grown_setA _ _ _ _ (World.grownBy.refl w _), .inl rfl⟩
        intro j hj
        rw [setA_get _ _ _ _ (by simp; omega)]
        by_cases h : j < zs.length
        · rw [if_neg (by omega), if_pos h, hcurm j h]
        · obtain rfl : j = zs.length := by omega
          rw [if_pos (by simp), if_neg h, if_pos rfl]; simp
      · have hlt : i < zs.length := by omega
        have hgv : vb ≠ g := fun e => hne (by rw [hob, e])
        rw [hv]
        refine (show Calls Tryz.prog 159 #[.slice (some ⟨g, 0, none⟩) zs.length cap, .int .i64 i, .slice (some ⟨vb, 0, none⟩) 1 1] w _ from Any2.slices_Insert_int_shift laysIns g 0 zs.length cap i vb 0 1 1 (zs.map (Value.int .i64)) [.int .i64 u] w hlt (by omega) hroom hcm hgv (by simp) rfl hcs (fun j hj => by rw [Nat.zero_add]; exact hsp _ (by omega)) (fun j hj => hfz _) hvs hml h1v 3 3 1 cap (by simp [World.shape?, hvb]) (by simp [World.shape?, hg, hsz]) (by omega) (by simp [World.frozen?, hvb]) (by simp [World.frozen?, hvb])).mono ?_
        rintro e w' ⟨rfl, rfl⟩
        refine ⟨_, rfl, own_ins hi hb (heap_setA _ _ _ _ (heap_setA _ _ w.drew _ hg)) hroom hcm (by rw [setA_size, setA_size, hsz]) ?_, grown_setA _ _ _ _ (grown_setA _ _ w.drew _ ⟨rfl, rfl, rfl, Nat.le_refl _, fun _ _ _ => rfl⟩), .inl rfl⟩
        intro j hj
        rw [setA_get _ _ _ _ (by rw [setA_size]; simp; omega), setA_get _ _ _ _ (by simp; omega)]
        simp only [List.length_cons, List.length_nil, List.length_drop, List.length_map, Nat.zero_add]
        by_cases h : j < i
        · rw [if_neg (by omega), if_neg (by omega), if_pos h, hcurm j (by omega)]
        · by_cases h2 : j = i
          · subst h2
            rw [if_pos (by omega), if_neg h, if_pos rfl]; simp
          · rw [if_neg (by omega), if_pos (by omega), if_neg h, if_neg h2, List.getElem?_drop, List.getElem?_map, show i + (j - (i + 1)) = j - 1 from by omega]
    · by_cases hin : i = zs.length
      · subst hin
        exact endgrow (some ⟨g, 0, none⟩) cap hv hnc (by omega) (by simp) (by intro a ha j x hj; injection ha with ha; subst ha; have := hcs j x hj; rw [Nat.zero_add] at this; rw [← this]; simp [Addr.add]; split <;> simp_all)
      · have hlt : i < zs.length := by omega
        rw [hv]
        refine (show Calls Tryz.prog 159 #[.slice (some ⟨g, 0, none⟩) zs.length cap, .int .i64 i, .slice (some ⟨vb, 0, none⟩) 1 1] w _ from Any2.slices_Insert_int_grow laysIns g 0 zs.length cap i vb 0 1 1 (zs.map (Value.int .i64)) [.int .i64 u] w hlt (by omega) hnc (by omega) (by omega) (by simp) rfl hcs hvs hml h1v).mono ?_
        rintro e w' ⟨rfl, rfl⟩
        have hge := grownCap_ge w (zs.length + 1) cap (laysIns_ren.t 3)
        have hle := grownCap_le_maxLen w (zs.length + 1) cap (laysIns_ren.t 3) (by unfold maxLen; omega)
        obtain ⟨G, hG⟩ : ∃ G, G = grownCap w (zs.length + 1) cap (laysIns_ren.t 3) := ⟨_, rfl⟩
        rw [← hG] at hge hle ⊢
        obtain ⟨ROW, hROW⟩ : ∃ ROW : Array Value, ROW = ((zs.map (Value.int .i64)).take i).toArray ++ Builtin.zeroCells (Value.int .i64 0).cells (zs.length + 1 - i) ++ Builtin.zeroCells (Value.int .i64 0).cells (G - (zs.length + 1)) := ⟨_, rfl⟩
        have hRs : ROW.size = G := by rw [hROW]; simp [Builtin.zeroCells, Value.cells]; omega
        have hR0 : ∀ j, j < i → ROW[j]? = (zs[j]?).map (Value.int .i64) := by
          intro j hj
          rw [hROW, Array.getElem?_append, if_pos (by simp; omega), Array.getElem?_append, if_pos (by simp; omega)]
          simp [hj]
        refine ⟨_, rfl, own_ins (cur := setA (setA ROW i [.int .i64 u]) (i + 1) ((zs.map (Value.int .i64)).drop i)) hi hbs ?_ hge hle ?_ ?_, ?_, .inr rfl⟩
        · rw [hROW]
          exact heap_setA _ _ (World.drew _) _ (heap_setA _ _ (World.drew _) _ (heap_alloc_new w _))
        · rw [setA_size, setA_size, hRs]
        · intro j hj
          rw [setA_get _ _ _ _ (by rw [setA_size]; simp; omega), setA_get _ _ _ _ (by simp; omega)]
          simp only [List.length_cons, List.length_nil, List.length_drop, List.length_map, Nat.zero_add]
          by_cases h : j < i
          · rw [if_neg (by omega), if_neg (by omega), if_pos h, hR0 j h]
          · by_cases h2 : j = i
            · subst h2
              rw [if_neg (by omega), if_pos (by omega), if_neg h, if_pos rfl]; simp
            · rw [if_pos (by omega), if_neg h, if_neg h2, List.getElem?_drop, List.getElem?_map, show i + (j - (i + 1)) = j - 1 from by omega]
        · have hb0 : Below w.heap.size w (w.alloc (.cells ROW 3)) := (Below.refl _ _).alloc (Nat.le_refl _) _
          rw [hROW] at hb0
          have hb1 := below_setA (g := w.heap.size) (B := w.heap.size) (Nat.le_refl _) [Value.int .i64 u] i _ _ hb0.drew
          have hb2 := below_setA (g := w.heap.size) (B := w.heap.size) (Nat.le_refl _) ((zs.map (Value.int .i64)).drop i) (i + 1) _ _ hb1.drew
          exact ⟨hb2.os, hb2.tape, hb2.output, hb2.size, fun k hk _ => hb2.block k hk⟩
end Go.Proofs.YtncpokioagpclaaGreatDoor
