/- Layer 13: the bytes of VNI in plain words: the rules of the document; letters behind one another. -/
import Derived.Test.YtgjmclbcmfkhdaaDoorVietN
import Derived.Test.YtgjmclbcmfkhdaaDoorTokM
namespace Go.Proofs.YtgjmclbcmfkhdaaDoor
set_option linter.unusedVariables false
set_option linter.unusedSimpArgs false
set_option linter.unnecessarySimpa false
open Go.RowKit
/-- the rules -/
def vnR : List (List Int × List Int) := [([97], [97]), ([97, 248], [224]), ([97, 249], [225]), ([97, 251], [7843]), ([97, 245], [227]), ([97, 239], [7841]), ([97, 234], [259]), ([97, 232], [7857]), ([97, 233], [7855]), ([97, 250], [7859]), ([97, 252], [7861]), ([97, 235], [7863]), ([97, 226], [226]), ([97, 224], [7847]), ([97, 225], [7845]), ([97, 229], [7849]), ([97, 227], [7851]), ([97, 228], [7853]), ([101], [101]), ([101, 248], [232]), ([101, 249], [233]), ([101, 251], [7867]), ([101, 245], [7869]), ([101, 239], [7865]), ([101, 226], [234]), ([101, 224], [7873]), ([101, 225], [7871]), ([101, 229], [7875]), ([101, 227], [7877]), ([101, 228], [7879]), ([105], [105]), ([236], [236]), ([237], [237]), ([230], [7881]), ([243], [297]), ([242], [7883]), ([111], [111]), ([111, 248], [242]), ([111, 249], [243]), ([111, 251], [7887]), ([111, 245], [245]), ([111, 239], [7885]), ([111, 226], [244]), ([111, 224], [7891]), ([111, 225], [7889]), ([111, 229], [7893]), ([111, 227], [7895]), ([111, 228], [7897]), ([244], [417]), ([244, 248], [7901]), ([244, 249], [7899]), ([244, 251], [7903]), ([244, 245], [7905]), ([244, 239], [7907]), ([117], [117]), ([117, 248], [249]), ([117, 249], [250]), ([117, 251], [7911]), ([117, 245], [361]), ([117, 239], [7909]), ([246], [432]), ([246, 248], [7915]), ([246, 249], [7913]), ([246, 251], [7917]), ([246, 245], [7919]), ([246, 239], [7921]), ([121], [121]), ([121, 248], [7923]), ([121, 249], [253]), ([121, 251], [7927]), ([121, 245], [7929]), ([238], [7925]), ([100], [100]), ([241], [273]), ([65], [65]), ([65, 216], [192]), ([65, 217], [193]), ([65, 219], [7842]), ([65, 213], [195]), ([65, 207], [7840]), ([65, 202], [258]), ([65, 200], [7856]), ([65, 201], [7854]), ([65, 218], [7858]), ([65, 220], [7860]), ([65, 203], [7862]), ([65, 194], [194]), ([65, 192], [7846]), ([65, 193], [7844]), ([65, 197], [7848]), ([65, 195], [7850]), ([65, 196], [7852]), ([69], [69]), ([69, 216], [200]), ([69, 217], [201]), ([69, 219], [7866]), ([69, 213], [7868]), ([69, 207], [7864]), ([69, 194], [202]), ([69, 192], [7872]), ([69, 193], [7870]), ([69, 197], [7874]), ([69, 195], [7876]), ([69, 196], [7878]), ([73], [73]), ([204], [204]), ([205], [205]), ([198], [7880]), ([211], [296]), ([210], [7882]), ([79], [79]), ([79, 216], [210]), ([79, 217], [211]), ([79, 219], [7886]), ([79, 213], [213]), ([79, 207], [7884]), ([79, 194], [212]), ([79, 192], [7890]), ([79, 193], [7888]), ([79, 197], [7892]), ([79, 195], [7894]), ([79, 196], [7896]), ([212], [416]), ([212, 216], [7900]), ([212, 217], [7898]), ([212, 219], [7902]), ([212, 213], [7904]), ([212, 207], [7906]), ([85], [85]), ([85, 216], [217]), ([85, 217], [218]), ([85, 219], [7910]), ([85, 213], [360]), ([85, 207], [7908]), ([214], [431]), ([214, 216], [7914]), ([214, 217], [7912]), ([214, 219], [7916]), ([214, 213], [7918]), ([214, 207], [7920]), ([89], [89]), ([89, 216], [7922]), ([89, 217], [221]), ([89, 219], [7926]), ([89, 213], [7928]), ([206], [7924]), ([68], [68]), ([209], [272]), ([0], [0]), ([1], [1]), ([2], [2]), ([3], [3]), ([4], [4]), ([5], [5]), ([6], [6]), ([7], [7]), ([8], [8]), ([9], [9]), ([10], [10]), ([11], [11]), ([12], [12]), ([13], [13]), ([14], [14]), ([15], [15]), ([16], [16]), ([17], [17]), ([18], [18]), ([19], [19]), ([20], [20]), ([21], [21]), ([22], [22]), ([23], [23]), ([24], [24]), ([25], [25]), ([26], [26]), ([27], [27]), ([28], [28]), ([29], [29]), ([30], [30]), ([31], [31]), ([32], [32]), ([33], [33]), ([34], [34]), ([35], [35]), ([36], [36]), ([37], [37]), ([38], [38]), ([39], [39]), ([40], [40]), ([41], [41]), ([42], [42]), ([43], [43]), ([44], [44]), ([45], [45]), ([46], [46]), ([47], [47]), ([48], [48]), ([49], [49]), ([50], [50]), ([51], [51]), ([52], [52]), ([53], [53]), ([54], [54]), ([55], [55]), ([56], [56]), ([57], [57]), ([58], [58]), ([59], [59]), ([60], [60]), ([61], [61]), ([62], [62]), ([63], [63]), ([64], [64]), ([66], [66]), ([67], [67]), ([70], [70]), ([71], [71]), ([72], [72]), ([74], [74]), ([75], [75]), ([76], [76]), ([77], [77]), ([78], [78]), ([80], [80]), ([81], [81]), ([82], [82]), ([83], [83]), ([84], [84]), ([86], [86]), ([87], [87]), ([88], [88]), ([90], [90]), ([91], [91]), ([92], [92]), ([93], [93]), ([94], [94]), ([95], [95]), ([96], [96]), ([98], [98]), ([99], [99]), ([102], [102]), ([103], [103]), ([104], [104]), ([106], [106]), ([107], [107]), ([108], [108]), ([109], [109]), ([110], [110]), ([112], [112]), ([113], [113]), ([114], [114]), ([115], [115]), ([116], [116]), ([118], [118]), ([119], [119]), ([120], [120]), ([122], [122]), ([123], [123]), ([124], [124]), ([125], [125]), ([126], [126]), ([127], [127])]
/-- letter k's bytes -/
def vnL (k : Nat) : List Int := (vnR.getD k ([], [])).1
/-- the byte of a small letter that has one for all of it -/
def vnW (s : Int) : Int := if s = 236 then 236 else if s = 237 then 237 else if s = 7881 then 230 else if s = 297 then 243 else if s = 7883 then 242 else if s = 7925 then 238 else if s = 273 then 241 else 0
/-- the signs, by mark and tone -/
def vnSg : List Int := [0, 0xf8, 0xf9, 0xfb, 0xf5, 0xef, 0xea, 0xe8, 0xe9, 0xfa, 0xfc, 0xeb, 0xe2, 0xe0, 0xe1, 0xe5, 0xe3, 0xe4, 0, 0xf8, 0xf9, 0xfb, 0xf5, 0xef]
def vnC (k : Nat) : Int := vnSg.getD (LM k * 6 + LT k) 0
/-- letter k's base, with its horn -/
def vnB (k : Nat) : Int := if LM k = 3 then (if LB k = 111 then 244 else 246) else LB k
/-- the rules turned round -/
def vnT : List (List Int × List Int) := vnR.map fun r => (r.2, r.1)
/-- how many rules there are ahead of that of byte c -/
def vnA (c : Nat) : Nat := 148 + ((List.range c).filter fun c : Nat => (splitF (c : Int)).isNone).length

theorem vnR_len : vnR.length = 262 := by decide +kernel
theorem vnT_len : vnT.length = 262 := by unfold vnT; rw [List.length_map]; exact vnR_len
theorem vnL_is (k : Nat) (h : k < 74) : vnL k = if vnW (LS k) = 0 then (if vnC k = 0 then [vnB k] else [vnB k, vnC k]) else [vnW (LS k)] := by
  have := all_range (show (List.range 74).all (fun k => decide (vnL k = if vnW (LS k) = 0 then (if vnC k = 0 then [vnB k] else [vnB k, vnC k]) else [vnW (LS k)])) = true by decide +kernel) k h
  simpa using this
theorem vnL_great (k : Nat) (h : k < 74) : vnL (k + 74) = (vnL k).map (· - 32) := by
  have := all_range (show (List.range 74).all (fun k => decide (vnL (k + 74) = (vnL k).map (· - 32))) = true by decide +kernel) k h
  simpa using this
theorem vnW_mark (k : Nat) (h : k < 74) (hw : vnW (LS k) = 0) : LM k ≤ 3 := by
  have := all_range (show (List.range 74).all (fun k => decide (vnW (LS k) = 0 → LM k ≤ 3)) = true by decide +kernel) k h
  exact of_decide_eq_true this hw
theorem vnW_range (s : Int) : 0 ≤ vnW s ∧ vnW s ≤ 255 := by
  unfold vnW; repeat' split
  all_goals omega
theorem vnC_range (k : Nat) (h : k < 74) : 0 ≤ vnC k ∧ vnC k ≤ 255 := by
  have := all_range (show (List.range 74).all (fun k => decide (0 ≤ vnC k ∧ vnC k ≤ 255)) = true by decide +kernel) k h
  simpa using this
theorem vnB_range (k : Nat) (h : k < 74) : 97 ≤ vnB k ∧ vnB k ≤ 255 := by
  have := all_range (show (List.range 74).all (fun k => decide (97 ≤ vnB k ∧ vnB k ≤ 255)) = true by decide +kernel) k h
  simpa using this
theorem vnL_len (k : Nat) (h : k < 148) : 1 ≤ (vnL k).length ∧ (vnL k).length ≤ 2 := by
  have := all_range (show (List.range 148).all (fun k => decide (1 ≤ (vnL k).length ∧ (vnL k).length ≤ 2)) = true by decide +kernel) k h
  simpa using this
theorem vnL_byte (k : Nat) (h : k < 148) : ∀ z ∈ vnL k, 32 ≤ z ∧ z ≤ 255 := by
  have := all_range (show (List.range 148).all (fun k => (vnL k).all fun z => decide (32 ≤ z ∧ z ≤ 255)) = true by decide +kernel) k h
  intro z hz
  simpa using List.all_eq_true.1 this z hz
theorem vnR_letter (k : Nat) (h : k < 148) : vnR[k]'(by rw [vnR_len]; omega) = (vnL k, [LS k]) := by
  have := all_range (show (List.range 148).all (fun k => decide (vnR.getD k ([], []) = (vnL k, [LS k]))) = true by decide +kernel) k h
  have := of_decide_eq_true this
  rw [List.getD_eq_getElem?_getD, List.getElem?_eq_getElem (by rw [vnR_len]; omega)] at this
  simpa using this
theorem vnA_zero : vnA 0 = 148 := rfl
theorem vnA_all : vnA 128 = 262 := by decide +kernel
theorem vnA_no (c : Nat) (h : (splitF (c : Int)).isNone = false) : vnA (c + 1) = vnA c := by
  unfold vnA; rw [List.range_succ, List.filter_append]; simp [h]
theorem vnA_yes (c : Nat) (h : (splitF (c : Int)).isNone = true) : vnA (c + 1) = vnA c + 1 := by
  unfold vnA; rw [List.range_succ, List.filter_append]; simp [h]; omega
theorem vnA_le (c : Nat) (h : c ≤ 128) : vnA c ≤ 262 := by
  have := all_range (show (List.range 129).all (fun c => decide (vnA c ≤ 262)) = true by decide +kernel) c (by omega)
  simpa using this
theorem vnA_at (c : Nat) (h : c < 128) (hs : (splitF (c : Int)).isNone = true) : vnR[vnA c]? = some ([(c : Int)], [(c : Int)]) := by
  have := all_range (show (List.range 128).all (fun c => decide ((splitF (c : Int)).isNone = true → vnR[vnA c]? = some ([(c : Int)], [(c : Int)]))) = true by decide +kernel) c h
  exact of_decide_eq_true this hs
/-- the rules of the letters, one by one -/
theorem vnR_take (k : Nat) (h : k < 148) : vnR.take (k + 1) = vnR.take k ++ [(vnL k, [LS k])] := by
  have hk : k < vnR.length := by rw [vnR_len]; omega
  rw [List.take_succ_eq_append_getElem hk, vnR_letter k h]
theorem vnR_more (c : Nat) (h : c < 128) (hs : (splitF (c : Int)).isNone = true) : vnR.take (vnA (c + 1)) = vnR.take (vnA c) ++ [([(c : Int)], [(c : Int)])] := by
  have h1 := vnA_at c h hs
  obtain ⟨hk, h2⟩ := List.getElem?_eq_some_iff.1 h1
  rw [vnA_yes c hs, List.take_succ_eq_append_getElem hk, h2]
theorem vnR_takeLen (k : Nat) (h : k ≤ 262) : (vnR.take k).length = k := by rw [List.length_take, vnR_len]; omega
/-- the rules are right -/
theorem vnR_right : checkR vnR = (-1, 0) := by decide +kernel
theorem vnR_good : Good vnR := good_of vnR_right
theorem vnR_long : longR vnR = 2 := by decide +kernel
theorem vnT_long : longR vnT = 1 := by decide +kernel
theorem vnR_turn : turnR vnR = vnT := by decide +kernel
theorem vnT_find (k : Nat) (h : k < 262) : findR vnT (vnR[k]'(by rw [vnR_len]; exact h)).2 = k := by
  have := all_range (show (List.range 262).all (fun k => decide (findR vnT (vnR.getD k ([], [])).2 = k)) = true by decide +kernel) k h
  have := of_decide_eq_true this
  rw [List.getD_eq_getElem?_getD, List.getElem?_eq_getElem (by rw [vnR_len]; omega)] at this
  simpa using this
theorem vnR_sides : ∀ r ∈ vnR, 1 ≤ r.1.length ∧ r.1.length ≤ 2 ∧ r.2.length = 1 := by
  have h : (vnR.all fun r => decide (1 ≤ r.1.length ∧ r.1.length ≤ 2 ∧ r.2.length = 1)) = true := by decide +kernel
  intro r hr
  simpa using List.all_eq_true.1 h r hr
/-- a byte that only stands behind another -/
def vnSec (z : Int) : Bool := vnSg.any fun c => c != 0 && (c == z || c - 32 == z)
theorem vnR_first : ∀ r ∈ vnR, vnSec (r.1.getD 0 0) = false := by
  have h : (vnR.all fun r => vnSec (r.1.getD 0 0) == false) = true := by decide +kernel
  intro r hr
  simpa using List.all_eq_true.1 h r hr
theorem vnR_second : ∀ r ∈ vnR, r.1.length = 2 → vnSec (r.1.getD 1 0) = true := by
  have h : (vnR.all fun r => decide (r.1.length = 2 → vnSec (r.1.getD 1 0) = true)) = true := by decide +kernel
  intro r hr
  exact of_decide_eq_true (List.all_eq_true.1 h r hr)
/-- rules' In behind one another are read one by one -/
theorem vn_step (k : Nat) (hk : k < vnR.length) (t : List Int) (ht : t = [] ∨ vnSec (t.getD 0 0) = false) : stepT vnR (vnR[k].1 ++ t) = ((vnR[k].1.length : Int), 0, vnR[k].2) := by
  have hg := vnR_good
  have hmem := List.getElem_mem hk
  obtain ⟨s1, s2, _⟩ := vnR_sides _ hmem
  obtain ⟨j, n, o, h1, h2⟩ := hg.long (vnR[k].1 ++ t)
  have hmax := h2.max _ hmem (by simp) (by simp)
  rcases hg.step h1 with ⟨_, e⟩ | ⟨m, e1, e2, e3, _, K, e5, hK, e6, e7⟩
  · omega
  obtain ⟨q1, q2, _⟩ := vnR_sides _ (List.getElem_mem hK)
  have hml : vnR[K].1.length = m := by rw [e6, List.length_take]; omega
  have hm : m = vnR[k].1.length := by
    by_cases hc : m = vnR[k].1.length
    · exact hc
    have l1 : vnR[k].1.length = 1 := by omega
    have l2 : m = 2 := by omega
    have h3 := vnR_second _ (List.getElem_mem hK) (by omega)
    have h4 : vnR[K].1.getD 1 0 = t.getD 0 0 := by
      rw [e6, l2]
      match hh : vnR[k].1, l1 with
      | [x], _ => cases t <;> simp
    rw [h4] at h3
    rcases ht with rfl | ht
    · rw [List.length_append, l1] at e3; simp at e3; omega
    · rw [ht] at h3; cases h3
  have hin : vnR[K].1 = vnR[k].1 := by rw [e6, hm]; simp
  have hKk : K = k := by
    have a := hg.self hK
    have b := hg.self hk
    rw [hin, b] at a
    omega
  subst hKk
  rw [e7, e1, hm]
theorem vn_reads : ∀ (ks : List Nat), (∀ k ∈ ks, k < 262) → ∀ at_ : Int, outsT (rewA vnR at_ (ks.flatMap fun k => (vnR.getD k ([], [])).1)) = (ks.flatMap fun k => (vnR.getD k ([], [])).2) ∧ (wrongT (rewA vnR at_ (ks.flatMap fun k => (vnR.getD k ([], [])).1))).err = 0
  | [], _, at_ => by simp only [List.flatMap_nil]; rw [rewA_nil]; exact ⟨rfl, rfl⟩
  | k :: ks, h, at_ => by
    have hk : k < vnR.length := by rw [vnR_len]; exact h k (by simp)
    have hd : vnR.getD k ([], []) = vnR[k] := by simp [List.getD_eq_getElem?_getD, hk]
    have hs := (vnR_sides _ (List.getElem_mem hk)).1
    simp only [List.flatMap_cons]
    rw [hd]
    obtain ⟨t, ht⟩ : ∃ t, (ks.flatMap fun k => (vnR.getD k ([], [])).1) = t := ⟨_, rfl⟩
    have ih := vn_reads ks (fun j hj => h j (by simp [hj])) (at_ + (vnR[k].1.length : Int))
    rw [ht] at ih ⊢
    have hfirst : t = [] ∨ vnSec (t.getD 0 0) = false := by
      cases ks with
      | nil => left; rw [← ht]; rfl
      | cons j js =>
        right
        have hj : j < vnR.length := by rw [vnR_len]; exact h j (by simp)
        have hdj : vnR.getD j ([], []) = vnR[j] := by simp [List.getD_eq_getElem?_getD, hj]
        have hsj := (vnR_sides _ (List.getElem_mem hj)).1
        rw [← ht, List.flatMap_cons, hdj]
        have := vnR_first _ (List.getElem_mem hj)
        match hh : vnR[j].1, hsj with
        | x :: xs, _ => rw [hh] at this; simpa using this
    have hne : vnR[k].1 ++ t ≠ [] := by intro e; rw [List.append_eq_nil_iff] at e; rw [e.1] at hs; simp at hs
    rw [rewA_cons hne (vn_step k hk t hfirst) (by omega)]
    rw [show ((vnR[k].1.length : Int)).toNat = vnR[k].1.length by omega, List.drop_left]
    refine ⟨?_, ?_⟩
    · show vnR[k].2 ++ outsT _ = _
      rw [ih.1]
    · rw [wrongT_y rfl]; exact ih.2
/-- the rule whose In and Out are this byte of ASCII -/
def vnI (c : Nat) : Nat := (findR vnR [(c : Int)]).toNat
theorem vnI_at (c : Nat) (h : c < 128) : vnI c < 262 ∧ vnR.getD (vnI c) ([], []) = ([(c : Int)], [(c : Int)]) := by
  have := all_range (show (List.range 128).all (fun c => decide (vnI c < 262 ∧ vnR.getD (vnI c) ([], []) = ([(c : Int)], [(c : Int)]))) = true by decide +kernel) c h
  exact of_decide_eq_true this
end Go.Proofs.YtgjmclbcmfkhdaaDoor
