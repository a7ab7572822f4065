/- Small facts that all layers' proofs use: how a slice value reads, append onto a row of the call's own, bits of an int, endings. No program is named here. -/
import Derived.WalkKit
import Derived.WalkSpells
import Derived.WalkLawsBesides
import Derived.Maps.AppendAt
import Derived.Deep.AppendLies
import Derived.Deep.Draws
import Derived.Lib.Hide
import Derived.WalkMore
import Derived.ScopeJumps
import Derived.Deep.QuietTactic
import Derived.BigQuiet
import Derived.Deep.LoopGhost
namespace Go.Proofs.YtncpokioagpclaaGreatDoor
set_option linter.unusedVariables false
open Go.RowKit

theorem ret_bool {a b : Bool} (h : b = a) : Ending.returned (.bool a) = .returned (.bool b) := by rw [h]
theorem ret_int {k : IntKind} {a b : Int} (h : b = a) : Ending.returned (.int k a) = .returned (.int k b) := by rw [h]
theorem ret_str {a b : ByteArray} (h : b = a) : Ending.returned (.string a) = .returned (.string b) := by rw [h]

/-- the cells xs lie at A, in a block below B -/
def Rd (w : World) (B : Nat) (A : Option Addr) (xs : List Value) : Prop :=
  xs = [] ∨ ∃ b off, A = some ⟨b, off, none⟩ ∧ b < B ∧ ∀ j, j < xs.length → w.cell? ⟨b, off + j, none⟩ = xs[j]?

theorem Rd.nil {w : World} {B : Nat} {A : Option Addr} : Rd w B A [] := .inl rfl
theorem Rd.keep {w w' : World} {B B' : Nat} {A : Option Addr} {xs : List Value} (h : Rd w B A xs) (hB : B ≤ B') (hk : ∀ b o, b < B → w'.cell? ⟨b, o, none⟩ = w.cell? ⟨b, o, none⟩) : Rd w' B' A xs := by
  rcases h with h | ⟨b, off, h1, h2, h3⟩
  · exact .inl h
  · exact .inr ⟨b, off, h1, by omega, fun j hj => (hk b _ h2).trans (h3 j hj)⟩
theorem Rd.below {w w' : World} {B B' : Nat} {A : Option Addr} {xs : List Value} (h : Rd w B A xs) (hb : Below B w w') (hB : B ≤ B') : Rd w' B' A xs :=
  h.keep hB fun b o hl => hb.cell (p := ⟨b, o, none⟩) hl
theorem Rd.drop {w : World} {B : Nat} {A : Option Addr} {xs : List Value} {k n cap : Nat} (h : Rd w B A xs) (hn : n = xs.length) (hk : k ≤ n) (hc : n ≤ cap) :
    Rd w B (if cap = k then A else A.map (·.add k)) (xs.drop k) := by
  subst hn
  rcases h with h | ⟨b, off, h1, h2, h3⟩
  · subst h; exact .inl (by simp)
  · by_cases hkk : k = xs.length
    · exact .inl (by rw [hkk]; simp)
    · right
      rw [if_neg (by omega), h1]
      refine ⟨b, off + k, ?_, h2, fun j hj => ?_⟩
      · simp only [Option.map_some, Addr.add]
        split
        · rename_i e; subst e; rfl
        · rfl
      · rw [Nat.add_assoc, h3 (k + j) (by simp at hj; omega), List.getElem?_drop]
theorem Rd.take {w : World} {B : Nat} {A : Option Addr} {xs : List Value} (k : Nat) (h : Rd w B A xs) : Rd w B A (xs.take k) := by
  rcases h with h | ⟨b, off, h1, h2, h3⟩
  · subst h; exact .inl (by simp)
  · refine .inr ⟨b, off, h1, h2, fun j hj => ?_⟩
    have : j < k ∧ j < xs.length := by simp at hj; omega
    rw [h3 j this.2, List.getElem?_take, if_pos this.1]
theorem Rd.own {w : World} {base size n : Nat} {e : TypeId} {A : Option Addr} {c : Nat} {xs : List Value} (h : w.ownsRow base e size (.slice A n c) n xs) : Rd w w.heap.size A xs := by
  by_cases hx : xs = []
  · exact .inl hx
  rcases h.2 with ⟨h1, h2⟩ | ⟨g, cap, cur, h1, h2, h3, h4, h5, h6, h7⟩
  · have := h.1; subst h2; simp at this; exact absurd this hx
  · injection h1 with hA _ hc
    subst hA hc
    have hlt : g < w.heap.size := by
      rcases Nat.lt_or_ge g w.heap.size with hl | hg
      · exact hl
      · rw [Array.getElem?_eq_none hg] at h3; cases h3
    refine .inr ⟨g, 0, rfl, hlt, fun j hj => ?_⟩
    have hc := h.cells (g := g) rfl j xs[j] (List.getElem?_eq_getElem hj)
    rw [List.getElem?_eq_getElem hj, ← hc]
    simp [Addr.add]
    split <;> simp_all
theorem own_form {w : World} {base size n : Nat} {e : TypeId} {v : Value} {xs : List Value} (h : w.ownsRow base e size v n xs) : ∃ A c, v = .slice A n c ∧ n ≤ c ∧ c ≤ maxLen := by
  rcases h.2 with ⟨h1, h2⟩ | ⟨g, cap, cur, h1, h2, h3, h4, h5, h6⟩
  · exact ⟨none, 0, by rw [h1, h2], by omega, by simp [maxLen]⟩
  · exact ⟨_, cap, h1, h4, h5⟩
theorem own_low {w : World} {base base' size n : Nat} {e : TypeId} {v : Value} {xs : List Value} (h : w.ownsRow base e size v n xs) (hb : base' ≤ base) : w.ownsRow base' e size v n xs := by
  refine ⟨h.1, ?_⟩
  rcases h.2 with h2 | ⟨g, cap, cur, h1, h2, h3⟩
  · exact .inl h2
  · exact .inr ⟨g, cap, cur, h1, by omega, h3⟩
theorem own_below {w w' : World} {base B size n : Nat} {e : TypeId} {v : Value} {xs : List Value} (h : w.ownsRow base e size v n xs) (hb : Below B w w') (hB : w.heap.size ≤ B) : w'.ownsRow base e size v n xs := by
  refine ⟨h.1, ?_⟩
  rcases h.2 with h2 | ⟨g, cap, cur, h1, h2, h3, h4⟩
  · exact .inl h2
  · have hlt : g < w.heap.size := by
      rcases Nat.lt_or_ge g w.heap.size with hl | hg
      · exact hl
      · rw [Array.getElem?_eq_none hg] at h3; cases h3
    exact .inr ⟨g, cap, cur, h1, h2, (hb.block g (by omega)).trans h3, h4⟩
theorem below_own {w w' : World} {B base size n : Nat} {e : TypeId} {v : Value} {xs : List Value} {w0 : World} (hb : Below B w0 w) (hg : w.grownBy w' v.ownBlock) (h : w.ownsRow base e size v n xs) (hB : B ≤ base) (hz : B ≤ w.heap.size) : Below B w0 w' :=
  hb.grown hg hz fun k hk => Nat.le_trans hB (h.lt k hk).1

section
variable {P : Program} (w : World)

theorem run_app (base : Nat) (t ty e : TypeId) (i : TypeInfo) (z : Value) (size bytes : Nat) (ht : P.underlying t = some (.slice e)) (hi : P.info? e = some i) (hz : i.zero = some z)
    (hsize : i.size = size) (hby : i.bytes = bytes) (hzs : z.cells.size = size) (hsz : 0 < size)
    (v : Value) (n : Nat) (xs : List Value) (hown : w.ownsRow base e size v n xs)
    (B : Nat) (A : Option Addr) (m c : Nat) (news : List Value) (hl : news.length = m * size) (hr : Rd w B A news) (h1 : ∀ u ∈ news, u.oneCell' = true)
    (h63 : n + m ≤ maxLen) (hbytes : (n + m) * bytes ≤ 140737488355328) (hbase : base ≤ w.heap.size) :
    ∃ v' w', (Builtin.append_ #[t, t] ty #[v, .slice A m c]).run P w = .ok v' w' ∧ w'.ownsRow base e size v' (n + m) (xs ++ news) ∧ w.grownBy w' v.ownBlock := by
  cases A with
  | none =>
    have hn : news = [] := by
      rcases hr with h | ⟨_, _, h, _⟩
      · exact h
      · cases h
    subst hn
    have hm : m = 0 := by
      rcases Nat.eq_zero_or_pos m with h | h
      · exact h
      · have := Nat.mul_pos h hsz; simp at hl; omega
    subst hm
    refine ⟨v, w, ?_, by simpa using hown, World.grownBy.refl w _⟩
    rcases hown.2 with ⟨hv, hn0⟩ | ⟨g, cap, cur, hv, _, _, hnc, _⟩
    · subst hv; simp [Builtin.append_, run_underlying ht, sizeOf, typeInfo, hi, Builtin.lenOf, Builtin.firstCells]
    · subst hv; simp [Builtin.append_, run_underlying ht, sizeOf, typeInfo, hi, Builtin.lenOf, Builtin.firstCells, hnc, storeCells]
  | some ad =>
    have hc : ∀ j u, news[j]? = some u → w.cell? (ad.add j) = some u := by
      intro j u hu
      rcases hr with h | ⟨b, off, h, _, hcell⟩
      · subst h; simp at hu
      · injection h with h; subst h
        have hj : j < news.length := by
          rcases Nat.lt_or_ge j news.length with hj | hj
          · exact hj
          · rw [List.getElem?_eq_none hj] at hu; cases hu
        rw [← hu, ← hcell j hj]
        simp [Addr.add]
        split <;> simp_all
    obtain ⟨v', w', hrun, h2, h3, _⟩ := run_append_own_at (P := P) w base t ty e i z size bytes ht hi hz hsize hby hzs hsz v n xs hown ad m c news hl hc h1 h63 hbytes hbase
    exact ⟨v', w', hrun, h2, h3⟩

theorem wpList_app {ops : Array Oper} {rest : List Oper} {o : Oper} {a : Act} {Q : Exit → Act → World → Prop} (hgd : o.guard = none) (s x : Operand) (t : TypeId)
    (ho : o.op = .call { callee := .builtin .append, args := #[s, x], argTypes := #[t, t] })
    (base : Nat) (e : TypeId) (i : TypeInfo) (z : Value) (size bytes : Nat) (ht : P.underlying t = some (.slice e)) (hi : P.info? e = some i) (hz : i.zero = some z)
    (hsize : i.size = size) (hby : i.bytes = bytes) (hzs : z.cells.size = size) (hsz : 0 < size)
    (v : Value) (n : Nat) (xs : List Value) (hs : a.eval s = v) (hown : w.ownsRow base e size v n xs)
    (B : Nat) (A : Option Addr) (m c : Nat) (news : List Value) (hx : a.eval x = .slice A m c) (hl : news.length = m * size) (hr : Rd w B A news) (h1 : ∀ u ∈ news, u.oneCell' = true)
    (h63 : n + m ≤ maxLen) (hbytes : (n + m) * bytes ≤ 140737488355328) (hbase : base ≤ w.heap.size)
    (h : ∀ v' w', w'.ownsRow base e size v' (n + m) (xs ++ news) → w.grownBy w' v.ownBlock → wpList P ops Q rest (a.put o.dst v') w') : wpList P ops Q (o :: rest) a w :=
  wpList_plain hgd fun K hK => by
    obtain ⟨v', w', hrun, h2, h3⟩ := run_app (P := P) w base t o.type e i z size bytes ht hi hz hsize hby hzs hsz v n xs hown B A m c news hl hr h1 h63 hbytes hbase
    unfold Oper.wp execOp
    simp only [ho, resolve, invoke, builtin, Sem.run_bind, Sem.run_pure, Result.andThen_ok, List.map_toArray, List.map_cons, List.map_nil, hs, hx, hrun]
    exact hK _ _ (h v' w' h2 h3)
end

theorem i64_small (n : Nat) (h : n < 4611686018427387904) : IntKind.i64.wrap (n : Int) = n := by rw [IntKind.wrap_i64]; omega
theorem ofInt_i64 (a : Nat) (ha : a < 4611686018427387904) : (BitVec.ofInt 64 (a : Int)).toNat = a := by
  simp; omega
theorem i64_and_nat (a b : Nat) (ha : a < 4611686018427387904) (hb : b < 4611686018427387904) : bits .and .i64 (a : Int) (b : Int) = ((a &&& b : Nat) : Int) := by
  have hx : a &&& b < 2 ^ 62 := Nat.and_lt_two_pow _ (by omega)
  show IntKind.i64.wrap ((BitVec.ofInt 64 (a : Int) &&& BitVec.ofInt 64 (b : Int)).toNat : Int) = _
  rw [BitVec.toNat_and, ofInt_i64 a ha, ofInt_i64 b hb, i64_small _ (by omega)]
theorem i64_or_nat (a b : Nat) (ha : a < 4611686018427387904) (hb : b < 4611686018427387904) : bits .or .i64 (a : Int) (b : Int) = ((a ||| b : Nat) : Int) := by
  have hx : a ||| b < 2 ^ 62 := Nat.or_lt_two_pow (by omega) (by omega)
  show IntKind.i64.wrap ((BitVec.ofInt 64 (a : Int) ||| BitVec.ofInt 64 (b : Int)).toNat : Int) = _
  rw [BitVec.toNat_or, ofInt_i64 a ha, ofInt_i64 b hb, i64_small _ (by omega)]
theorem i64_and (a b : Int) (h1 : 0 ≤ a) (h2 : a < 4611686018427387904) (h3 : 0 ≤ b) (h4 : b < 4611686018427387904) : bits .and .i64 a b = ((a.toNat &&& b.toNat : Nat) : Int) := by
  obtain ⟨A, rfl⟩ := Int.eq_ofNat_of_zero_le h1
  obtain ⟨B, rfl⟩ := Int.eq_ofNat_of_zero_le h3
  simpa using i64_and_nat A B (by omega) (by omega)
theorem i64_or (a b : Int) (h1 : 0 ≤ a) (h2 : a < 4611686018427387904) (h3 : 0 ≤ b) (h4 : b < 4611686018427387904) : bits .or .i64 a b = ((a.toNat ||| b.toNat : Nat) : Int) := by
  obtain ⟨A, rfl⟩ := Int.eq_ofNat_of_zero_le h1
  obtain ⟨B, rfl⟩ := Int.eq_ofNat_of_zero_le h3
  simpa using i64_or_nat A B (by omega) (by omega)
theorem i64_and63 (a : Int) (h1 : 0 ≤ a) (h2 : a < 4611686018427387904) : bits .and .i64 a 63 = a % 64 := by
  rw [i64_and a 63 h1 h2 (by omega) (by omega)]
  have : a.toNat &&& (63 : Int).toNat = a.toNat % 64 := nat_mask6 _
  rw [this]; omega
theorem i64_mask31 (a : Int) (h1 : 0 ≤ a) (h2 : a < 4611686018427387904) : bits .and .i64 a 31 = a % 32 := by
  rw [i64_and a 31 h1 h2 (by omega) (by omega)]
  have : a.toNat &&& (31 : Int).toNat = a.toNat % 32 := nat_mask5 _
  rw [this]; omega
theorem i64_mask15 (a : Int) (h1 : 0 ≤ a) (h2 : a < 4611686018427387904) : bits .and .i64 a 15 = a % 16 := by
  rw [i64_and a 15 h1 h2 (by omega) (by omega)]
  have : a.toNat &&& (15 : Int).toNat = a.toNat % 16 := nat_mask4 _
  rw [this]; omega
theorem i64_mask7 (a : Int) (h1 : 0 ≤ a) (h2 : a < 4611686018427387904) : bits .and .i64 a 7 = a % 8 := by
  rw [i64_and a 7 h1 h2 (by omega) (by omega)]
  have : a.toNat &&& (7 : Int).toNat = a.toNat % 8 := nat_mask3 _
  rw [this]; omega
/-- x | y = x + y, where x is a multiple of 2^k and y is below it -/
theorem i64_join (k : Nat) (a b : Int) (h1 : 0 ≤ a) (h2 : a < 4611686018427387904) (h3 : 0 ≤ b) (h4 : b < 4611686018427387904) (h5 : a.toNat % 2 ^ k = 0) (h6 : b.toNat < 2 ^ k) : bits .or .i64 a b = a + b := by
  rw [i64_or a b h1 h2 h3 h4, nat_join k _ _ h5 h6]; omega

/-- the row of the call's own, from block base on, that holds the ints zs -/
def OwnI (k : IntKind) (e : TypeId) (w : World) (base : Nat) (v : Value) (zs : List Int) : Prop := w.ownsRow base e 1 v zs.length (zs.map (Value.int k))
/-- an answer that is such a row; of what was there only the block 'row' may have been written -/
def RetI (k : IntKind) (e : TypeId) (base : Nat) (row : Option Nat) (zs : List Int) (w : World) (en : Ending) (w' : World) : Prop := ∃ v, en = .returned v ∧ OwnI k e w' base v zs ∧ w.grownBy w' row
theorem Rd_new (w : World) (cs : Array Value) (t : TypeId) : Rd (w.alloc (.cells cs t)) (w.heap.size + 1) (some ⟨w.heap.size, 0, none⟩) cs.toList := by
  refine .inr ⟨w.heap.size, 0, rfl, by omega, fun j hj => ?_⟩
  have h : (w.alloc (.cells cs t)).heap[w.heap.size]? = some (.cells cs t) := heap_alloc_new w _
  rw [cell_of_row _ _ _ _ _ _ h]
  simp
theorem ints_one (k : IntKind) (zs : List Int) : ∀ u ∈ zs.map (Value.int k), u.oneCell' = true := by
  intro u hu
  simp at hu
  obtain ⟨a, _, rfl⟩ := hu
  rfl
theorem grown_seq {w w1 w2 : World} {row : Option Nat} (h : w.grownBy w1 row) (h' : w1.grownBy w2 row) : w.grownBy w2 row :=
  ⟨h'.os.trans h.os, h'.tape.trans h.tape, h'.output.trans h.output, Nat.le_trans h.size h'.size, fun k hk hr => (h'.block k (Nat.lt_of_lt_of_le hk h.size) hr).trans (h.block k hk hr)⟩
/-- a scope with one label, to which the run jumps forward: each jump is walked on where it is met -/
theorem wp_scope_fwd {P : Program} {a : Act} {w : World} {Q : Exit → Act → World → Prop} {c rest : Code} (l : Nat) (hf : findLabel c l = some rest)
    (first : c.wp P (Exit.jump l (fun a w => rest.wp P (Exit.jump l (fun _ _ => False) Q) a w) Q) a w) : (Code.scope c).wp P Q a w :=
  wp_scope_jumps l _ (fun _ _ => 0) hf first fun a w h => wp_mono h fun e a w q => by
    cases e with
    | goto l' => exact ⟨q.1, q.2.elim⟩
    | _ => exact q
theorem getD_ints {zs : List Int} {k : IntKind} (j : Nat) (hj : j < zs.length) : (zs.map (Value.int k))[j]? = some (.int k (zs.getD j 0)) := by
  simp [List.getElem?_map, List.getElem?_eq_getElem hj, List.getD_eq_getElem?_getD]
theorem rd_ints {w : World} {B : Nat} {A : Option Addr} {zs : List Int} {k : IntKind} (h : Rd w B A (zs.map (Value.int k))) (hn : 0 < zs.length) :
    ∃ b off, A = some ⟨b, off, none⟩ ∧ b < B ∧ ∀ j, j < zs.length → w.cell? ⟨b, off + j, none⟩ = some (.int k (zs.getD j 0)) := by
  rcases h with h | ⟨b, off, h1, h2, h3⟩
  · have : zs = [] := by simpa using h
    rw [this] at hn; cases hn
  · exact ⟨b, off, h1, h2, fun j hj => by rw [h3 j (by simpa using hj), getD_ints j hj]⟩
theorem getD_range {zs : List Int} {lo hi : Int} (h : ∀ z ∈ zs, lo ≤ z ∧ z ≤ hi) (j : Nat) (hj : j < zs.length) : lo ≤ zs.getD j 0 ∧ zs.getD j 0 ≤ hi := by
  have : zs.getD j 0 = zs[j] := by simp [List.getD_eq_getElem?_getD, hj]
  rw [this]; exact h _ (List.getElem_mem hj)
theorem rd_new_ints (w : World) (k : IntKind) (zs : List Int) (t : TypeId) (cs : Array Value) (hc : cs.toList = zs.map (Value.int k)) : Rd (w.alloc (.cells cs t)) (w.alloc (.cells cs t)).heap.size (some ⟨w.heap.size, 0, none⟩) (zs.map (Value.int k)) := by
  rw [← hc]
  have h := Rd_new w cs t
  have e : (w.alloc (.cells cs t)).heap.size = w.heap.size + 1 := by simp
  rw [e]; exact h
/-- bytes made a string -/
theorem run_str {P : Program} (w : World) (src dst e : TypeId) (hs : P.underlying src = some (.slice e)) (he : P.underlying e = some (.int .u8)) (hd : P.underlying dst = some .string)
    (B : Nat) (A : Option Addr) (zs : List Int) (n cap : Nat) (hn : n = zs.length) (hr : Rd w B A (zs.map (Value.int .u8))) :
    (convert src dst (.slice A n cap)).run P w = .ok (.string (strOfNums zs)) w := by
  subst hn
  rcases Nat.eq_zero_or_pos zs.length with h0 | h0
  · have : zs = [] := List.eq_nil_of_length_eq_zero h0
    subst this
    cases A with
    | none => exact run_convert_bytes_nil w src e hs he _ _ dst hd
    | some ad =>
      rw [run_convert_bytes_string w src dst e _ _ _ hs he hd, show ([] : List Int).length = 0 from rfl]
      rw [run_bytesToString w ad 0 cap [] (by have := run_loadCells_list (P := P) w ad [] (fun j v hj => by simp at hj); simpa using this)]
      rfl
  · obtain ⟨b, off, rfl, _, hc⟩ := rd_ints hr h0
    exact run_convert_bytes_arg w src e hs he b off zs.length cap zs rfl hc dst hd
end Go.Proofs.YtncpokioagpclaaGreatDoor
