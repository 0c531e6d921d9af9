/-
  Plain facts on samples in several chunks: where a time stands among them, what is put, got, dropped and told of one chunk is so of all.
-/
import Derived.Test.YtpbhdlhbcfkhfaaGreatSMath
namespace Go.Proofs.YtpbhdlhbcfkhfaaGreat
set_option linter.unusedVariables false
set_option linter.unusedSimpArgs false

theorem tOf_get {z : List (Int × Int)} {i : Nat} (h : i < z.length) : tOf z i = z[i].1 := by unfold tOf; rw [List.getD_eq_getElem?_getD, List.getElem?_eq_getElem h]; rfl
theorem rising_pw (z : List (Int × Int)) : Rising z ↔ z.Pairwise (fun a b => a.1 < b.1) := by
  rw [List.pairwise_iff_getElem]
  constructor
  · intro h i j hi hj hij
    have := h i j hij hj
    rwa [tOf_get hi, tOf_get hj] at this
  · intro h i j hij hj
    rw [tOf_get (by omega), tOf_get hj]
    exact h i j (by omega) hj hij
theorem rising_left {x y : List (Int × Int)} (h : Rising (x ++ y)) : Rising x := (rising_pw x).2 (List.pairwise_append.1 ((rising_pw _).1 h)).1
theorem rising_right {x y : List (Int × Int)} (h : Rising (x ++ y)) : Rising y := (rising_pw y).2 (List.pairwise_append.1 ((rising_pw _).1 h)).2.1
theorem rising_cross {x y : List (Int × Int)} (h : Rising (x ++ y)) : ∀ a ∈ x, ∀ b ∈ y, a.1 < b.1 := (List.pairwise_append.1 ((rising_pw _).1 h)).2.2
theorem tOf_mem {z : List (Int × Int)} {i : Nat} (h : i < z.length) : ∃ a ∈ z, a.1 = tOf z i := ⟨_, List.getElem_mem h, (tOf_get h).symm⟩

/-! A time in the middle one of three lists. -/
theorem get3 (x y u : List (Int × Int)) (i : Nat) : (x ++ y ++ u).getD i (0, 0) = if i < x.length then x.getD i (0, 0) else if i < x.length + y.length then y.getD (i - x.length) (0, 0) else u.getD (i - x.length - y.length) (0, 0) := by
  by_cases h1 : i < x.length
  · rw [if_pos h1, List.append_assoc, getD_app_left x _ i h1]
  · rw [if_neg h1, List.append_assoc, getD_app_right x _ i (by omega)]
    by_cases h2 : i < x.length + y.length
    · rw [if_pos h2, getD_app_left _ _ _ (by omega)]
    · rw [if_neg h2, getD_app_right _ _ _ (by omega)]
theorem tOf3 (x y u : List (Int × Int)) (i : Nat) : tOf (x ++ y ++ u) i = if i < x.length then tOf x i else if i < x.length + y.length then tOf y (i - x.length) else tOf u (i - x.length - y.length) := by
  unfold tOf; rw [get3]; (repeat' split) <;> rfl
theorem bef_parts {x y u : List (Int × Int)} {t : Int} (hy : Rising y) (hx : ∀ a ∈ x, a.1 < t) (hu : ∀ a ∈ u, t < a.1) : bef (x ++ y ++ u) t = x.length + bef y t := by
  have hl := bef_le y t
  refine cnt_is _ _ _ (by simp; omega) ?_ ?_
  · intro i hi
    simp only [decide_eq_true_eq]
    rw [tOf3]
    by_cases h1 : i < x.length
    · rw [if_pos h1]; obtain ⟨a, ha, e⟩ := tOf_mem h1; have := hx a ha; omega
    · rw [if_neg h1, if_pos (by omega)]
      exact (bef_iff hy t _ (by omega)).2 (by omega)
  · intro i hi hn
    simp only [decide_eq_false_iff_not]
    rw [tOf3, if_neg (by omega)]
    by_cases h2 : i < x.length + y.length
    · rw [if_pos h2]; intro e; have := (bef_iff hy t _ (by omega)).1 e; omega
    · rw [if_neg h2]
      obtain ⟨a, ha, e⟩ := tOf_mem (z := u) (i := i - x.length - y.length) (by simp at hn; omega)
      have := hu a ha; omega
theorem upt_parts {x y u : List (Int × Int)} {t : Int} (hy : Rising y) (hx : ∀ a ∈ x, a.1 < t) (hu : ∀ a ∈ u, t < a.1) : upt (x ++ y ++ u) t = x.length + upt y t := by
  have hl := upt_le y t
  refine cnt_is _ _ _ (by simp; omega) ?_ ?_
  · intro i hi
    simp only [decide_eq_true_eq]
    rw [tOf3]
    by_cases h1 : i < x.length
    · rw [if_pos h1]; obtain ⟨a, ha, e⟩ := tOf_mem h1; have := hx a ha; omega
    · rw [if_neg h1, if_pos (by omega)]
      exact (upt_iff hy t _ (by omega)).2 (by omega)
  · intro i hi hn
    simp only [decide_eq_false_iff_not]
    rw [tOf3, if_neg (by omega)]
    by_cases h2 : i < x.length + y.length
    · rw [if_pos h2]; intro e; have := (upt_iff hy t _ (by omega)).1 e; omega
    · rw [if_neg h2]
      obtain ⟨a, ha, e⟩ := tOf_mem (z := u) (i := i - x.length - y.length) (by simp at hn; omega)
      have := hu a ha; omega
theorem ins_parts {x y u : List (Int × Int)} {t : Int} (v : Int) (hy : Rising y) (hx : ∀ a ∈ x, a.1 < t) (hu : ∀ a ∈ u, t < a.1) : insL (x ++ y ++ u) t v = x ++ insL y t v ++ u := by
  have h1 := bef_le y t
  have h2 := upt_le y t
  unfold insL
  rw [bef_parts hy hx hu, upt_parts hy hx hu, List.append_assoc x y u]
  rw [List.take_append, List.drop_append, List.take_of_length_le (by omega), List.drop_of_length_le (by omega)]
  rw [show x.length + bef y t - x.length = bef y t from by omega, show x.length + upt y t - x.length = upt y t from by omega]
  rw [List.take_append_of_le_length h1, List.drop_append_of_le_length h2]
  simp
theorem vOf3_mid (x y u : List (Int × Int)) (i : Nat) (h : i < y.length) : vOf (x ++ y ++ u) (x.length + i) = vOf y i := by
  unfold vOf; rw [get3, if_neg (by omega), if_pos (by omega), show x.length + i - x.length = i from by omega]
theorem newV_parts {x y u : List (Int × Int)} {t : Int} (v p : Int) (hy : Rising y) (hx : ∀ a ∈ x, a.1 < t) (hu : ∀ a ∈ u, t < a.1) : newV (x ++ y ++ u) t v p = newV y t v p := by
  have h2 := upt_le y t
  unfold newV
  rw [bef_parts hy hx hu, upt_parts hy hx hu]
  by_cases h : bef y t < upt y t
  · rw [if_pos h, if_pos (by omega), vOf3_mid x y u _ (by omega)]
  · rw [if_neg h, if_neg (by omega)]
theorem getL_parts {x y u : List (Int × Int)} {t : Int} (hy : Rising y) (hx : ∀ a ∈ x, a.1 < t) (hu : ∀ a ∈ u, t < a.1) : getL (x ++ y ++ u) t = getL y t := by
  have h2 := upt_le y t
  unfold getL
  rw [bef_parts hy hx hu, upt_parts hy hx hu]
  by_cases h : bef y t < upt y t
  · rw [if_pos h, if_pos (by omega), vOf3_mid x y u _ (by omega)]
  · rw [if_neg h, if_neg (by omega)]

/-- A sample ahead of the second part, or not. -/
theorem ins_front {z : List (Int × Int)} (hr : Rising z) (k : Nat) (hk : k < z.length) {t : Int} (v p : Int) (h : t < tOf z k) : insL (z.take k) t v ++ z.drop k = insL z t v ∧ newV (z.take k) t v p = newV z t v p := by
  have e : [] ++ z.take k ++ z.drop k = z := by simp
  have hu : ∀ a ∈ z.drop k, t < a.1 := by
    intro a ha
    obtain ⟨i, hi, rfl⟩ := List.mem_iff_getElem.1 ha
    simp at hi
    have := rising_le hr k (k + i) (by omega) (by omega)
    rw [tOf_get (i := k + i) (by omega)] at this
    simp; omega
  have hx : ∀ a ∈ ([] : List (Int × Int)), a.1 < t := by simp
  have h1 := ins_parts v (rising_take hr k) hx hu
  have h2 := newV_parts v p (rising_take hr k) hx hu
  rw [e] at h1 h2
  exact ⟨by rw [h1]; simp, h2.symm⟩
theorem ins_back {z : List (Int × Int)} (hr : Rising z) (k : Nat) (hk : k < z.length) {t : Int} (v p : Int) (h : tOf z k ≤ t) : z.take k ++ insL (z.drop k) t v = insL z t v ∧ newV (z.drop k) t v p = newV z t v p := by
  have e : z.take k ++ z.drop k ++ [] = z := by simp
  have hx : ∀ a ∈ z.take k, a.1 < t := by
    intro a ha
    obtain ⟨i, hi, rfl⟩ := List.mem_iff_getElem.1 ha
    simp at hi
    have := hr i k (by omega) hk
    rw [tOf_get (i := i) (by omega)] at this
    simp; omega
  have hu : ∀ a ∈ ([] : List (Int × Int)), t < a.1 := by simp
  have h1 := ins_parts v (rising_drop hr k) hx hu
  have h2 := newV_parts v p (rising_drop hr k) hx hu
  rw [e] at h1 h2
  exact ⟨by rw [h1]; simp, h2.symm⟩
/-- A sample behind all. -/
theorem ins_end {z : List (Int × Int)} (hr : Rising z) {t : Int} (v : Int) (h : ∀ a ∈ z, a.1 < t) : insL z t v = z ++ [(t, v)] := by
  have h1 := ins_parts (x := z) (y := []) (u := []) v rising_nil h (by simp)
  simp at h1
  rw [h1]; simp [insL, bef, upt, cnt]
theorem newV_end {z : List (Int × Int)} (hr : Rising z) {t : Int} (v p : Int) (h : ∀ a ∈ z, a.1 < t) : newV z t v p = (v, 0) := by
  have h1 := newV_parts (x := z) (y := []) (u := []) v p rising_nil h (by simp)
  simp at h1
  rw [h1]; simp [newV, bef, upt, cnt]

/-! Which chunks begin at a time of at most t. -/
def begL (Z : List (List (Int × Int))) (t : Int) : Nat := cnt Z.length fun i => decide (tOf (Z.getD i []) 0 ≤ t)
theorem begL_le (Z : List (List (Int × Int))) (t : Int) : begL Z t ≤ Z.length := cnt_le _ _
theorem chunk_get {Z : List (List (Int × Int))} {i : Nat} (h : i < Z.length) : Z.getD i [] = Z[i] := by rw [List.getD_eq_getElem?_getD, List.getElem?_eq_getElem h]; rfl
theorem flat_cross {Z : List (List (Int × Int))} (hr : Rising Z.flatten) (i j : Nat) (hij : i < j) (hj : j < Z.length) : ∀ a ∈ Z.getD i [], ∀ b ∈ Z.getD j [], a.1 < b.1 := by
  have := (List.pairwise_flatten.1 ((rising_pw _).1 hr)).2
  rw [chunk_get (by omega), chunk_get hj]
  exact List.pairwise_iff_getElem.1 this i j (by omega) hj hij
theorem flat_rising {Z : List (List (Int × Int))} (hr : Rising Z.flatten) {z : List (Int × Int)} (hz : z ∈ Z) : Rising z := (rising_pw z).2 ((List.pairwise_flatten.1 ((rising_pw _).1 hr)).1 z hz)
theorem first_mem {z : List (Int × Int)} (h : z ≠ []) : ∃ a ∈ z, a.1 = tOf z 0 := tOf_mem (by cases z with | nil => exact absurd rfl h | cons a l => simp)
theorem begL_iff {Z : List (List (Int × Int))} (hr : Rising Z.flatten) (hn : ∀ z ∈ Z, z ≠ []) (t : Int) (i : Nat) (hi : i < Z.length) : tOf (Z.getD i []) 0 ≤ t ↔ i < begL Z t := by
  have := cnt_iff Z.length (fun i => decide (tOf (Z.getD i []) 0 ≤ t)) (fun a b hab hb hq => by
    by_cases e : a = b
    · subst e; exact hq
    · have ha : a < Z.length := by omega
      obtain ⟨x, hx, ex⟩ := first_mem (hn (Z.getD a []) (by rw [chunk_get ha]; exact List.getElem_mem ha))
      obtain ⟨y, hy, ey⟩ := first_mem (hn (Z.getD b []) (by rw [chunk_get hb]; exact List.getElem_mem hb))
      have := flat_cross hr a b (by omega) hb x hx y hy
      simp only [decide_eq_true_eq] at hq ⊢
      omega) i hi
  unfold begL
  simpa using this
/-- What the chunks ahead, and behind, have. -/
theorem beg_ahead {Z : List (List (Int × Int))} (hr : Rising Z.flatten) (hn : ∀ z ∈ Z, z ≠ []) (t : Int) : ∀ a ∈ (Z.take (begL Z t - 1)).flatten, a.1 < t := by
  intro a ha
  obtain ⟨z, hz, haz⟩ := List.mem_flatten.1 ha
  obtain ⟨i, hi, rfl⟩ := List.mem_iff_getElem.1 hz
  have hl := begL_le Z t
  simp at hi
  have hj : i + 1 < Z.length := by omega
  have h1 := (begL_iff hr hn t (i + 1) hj).2 (by omega)
  obtain ⟨y, hy, ey⟩ := first_mem (hn (Z.getD (i + 1) []) (by rw [chunk_get hj]; exact List.getElem_mem hj))
  have h2 := flat_cross hr i (i + 1) (by omega) hj a (by rw [chunk_get (by omega)]; simpa using haz) y hy
  omega
theorem beg_behind {Z : List (List (Int × Int))} (hr : Rising Z.flatten) (hn : ∀ z ∈ Z, z ≠ []) (t : Int) : ∀ a ∈ (Z.drop (begL Z t)).flatten, t < a.1 := by
  intro a ha
  obtain ⟨z, hz, haz⟩ := List.mem_flatten.1 ha
  obtain ⟨i, hi, rfl⟩ := List.mem_iff_getElem.1 hz
  simp at hi
  have hj : begL Z t + i < Z.length := by omega
  have h1 : ¬ tOf (Z.getD (begL Z t + i) []) 0 ≤ t := fun e => by have := (begL_iff hr hn t _ hj).1 e; omega
  have hm : Z.getD (begL Z t + i) [] ∈ Z := by rw [chunk_get hj]; exact List.getElem_mem hj
  have hzr := flat_rising hr hm
  have haz' : a ∈ Z.getD (begL Z t + i) [] := by rw [chunk_get hj]; simpa using haz
  obtain ⟨k, hk, e⟩ := List.mem_iff_getElem.1 haz'
  have h2 := rising_le hzr 0 k (by omega) hk
  rw [tOf_get (i := k) hk, e] at h2
  omega

/-! Which chunks have samples of some times. -/
def winA (Z : List (List (Int × Int))) (a b : Int) : Nat := if b < a then 0 else begL Z a - 1
def winB (Z : List (List (Int × Int))) (a b : Int) : Nat := if b < a then 0 else begL Z b
theorem begL_mono {Z : List (List (Int × Int))} (hr : Rising Z.flatten) (hn : ∀ z ∈ Z, z ≠ []) {a b : Int} (h : a ≤ b) : begL Z a ≤ begL Z b := by
  apply Classical.byContradiction
  intro hc
  have hl := begL_le Z a
  have h1 := (begL_iff hr hn a (begL Z b) (by omega)).2 (by omega)
  have h2 := (begL_iff hr hn b (begL Z b) (by omega)).1 (by omega)
  omega
theorem win_le {Z : List (List (Int × Int))} (hr : Rising Z.flatten) (hn : ∀ z ∈ Z, z ≠ []) (a b : Int) : winA Z a b ≤ winB Z a b ∧ winB Z a b ≤ Z.length := by
  unfold winA winB
  split
  · omega
  · have := begL_mono hr hn (a := a) (b := b) (by omega)
    have := begL_le Z b
    omega
def keptB (a b : Int) (x : Int × Int) : Bool := decide (x.1 < a) || decide (b < x.1)
def inB (a b : Int) (x : Int × Int) : Bool := decide (a ≤ x.1) && decide (x.1 ≤ b)
theorem kept_in (a b : Int) (x : Int × Int) : keptB a b x = !inB a b x := by unfold keptB inB; by_cases h1 : x.1 < a <;> by_cases h2 : b < x.1 <;> simp [h1, h2] <;> omega
theorem win_ahead {Z : List (List (Int × Int))} (hr : Rising Z.flatten) (hn : ∀ z ∈ Z, z ≠ []) (a b : Int) : ∀ x ∈ (Z.take (winA Z a b)).flatten, inB a b x = false := by
  intro x hx
  unfold winA at hx
  split at hx
  · simp at hx
  · have := beg_ahead hr hn a x hx
    unfold inB; simp; omega
theorem win_behind {Z : List (List (Int × Int))} (hr : Rising Z.flatten) (hn : ∀ z ∈ Z, z ≠ []) (a b : Int) : ∀ x ∈ (Z.drop (winB Z a b)).flatten, inB a b x = false := by
  intro x hx
  unfold winB at hx
  split at hx
  · unfold inB; simp; omega
  · have := beg_behind hr hn b x hx
    unfold inB; simp; omega
def midL {α : Type} (Z : List α) (f e : Nat) : List α := (Z.take e).drop f
theorem three {α : Type} (Z : List α) (f e : Nat) (h : f ≤ e) : Z.take f ++ midL Z f e ++ Z.drop e = Z := by
  unfold midL
  have : (Z.take e).take f = Z.take f := by rw [List.take_take, Nat.min_eq_left h]
  rw [← this, List.take_append_drop, List.take_append_drop]
theorem win_in {Z : List (List (Int × Int))} (hr : Rising Z.flatten) (hn : ∀ z ∈ Z, z ≠ []) (a b : Int) : Z.flatten.filter (inB a b) = (midL Z (winA Z a b) (winB Z a b)).flatten.filter (inB a b) := by
  have hl := win_le hr hn a b
  conv => lhs; rw [← three Z (winA Z a b) (winB Z a b) hl.1]
  rw [List.flatten_append, List.flatten_append, List.filter_append, List.filter_append]
  have e1 : (Z.take (winA Z a b)).flatten.filter (inB a b) = [] := List.filter_eq_nil_iff.2 (fun x hx => by rw [win_ahead hr hn a b x hx]; simp)
  have e2 : (Z.drop (winB Z a b)).flatten.filter (inB a b) = [] := List.filter_eq_nil_iff.2 (fun x hx => by rw [win_behind hr hn a b x hx]; simp)
  rw [e1, e2, List.nil_append, List.append_nil]
theorem win_kept {Z : List (List (Int × Int))} (hr : Rising Z.flatten) (hn : ∀ z ∈ Z, z ≠ []) (a b : Int) : dropL Z.flatten a b = (Z.take (winA Z a b)).flatten ++ ((midL Z (winA Z a b) (winB Z a b)).map fun z => dropL z a b).flatten ++ (Z.drop (winB Z a b)).flatten := by
  have hl := win_le hr hn a b
  have hm : ((midL Z (winA Z a b) (winB Z a b)).map fun z => dropL z a b).flatten = (midL Z (winA Z a b) (winB Z a b)).flatten.filter (keptB a b) := by
    rw [List.filter_flatten]
    congr 1
    apply List.map_congr_left
    intro z hz
    have hzm : z ∈ Z := List.mem_of_mem_take (List.mem_of_mem_drop hz)
    exact (filter_is (flat_rising hr hzm) a b).symm
  rw [hm, ← filter_is hr a b]
  show Z.flatten.filter (keptB a b) = _
  conv => lhs; rw [← three Z (winA Z a b) (winB Z a b) hl.1]
  rw [List.flatten_append, List.flatten_append, List.filter_append, List.filter_append]
  have e1 : (Z.take (winA Z a b)).flatten.filter (keptB a b) = (Z.take (winA Z a b)).flatten := List.filter_eq_self.2 (fun x hx => by rw [kept_in, win_ahead hr hn a b x hx]; rfl)
  have e2 : (Z.drop (winB Z a b)).flatten.filter (keptB a b) = (Z.drop (winB Z a b)).flatten := List.filter_eq_self.2 (fun x hx => by rw [kept_in, win_behind hr hn a b x hx]; rfl)
  rw [e1, e2]
theorem dropN_len (z : List (Int × Int)) (a b : Int) : z.length = (dropL z a b).length + dropN z a b := by
  have h1 := dropL_length z a b
  have h2 := upt_le z b
  have : dropN z a b ≤ z.length := by unfold dropN; omega
  omega

end Go.Proofs.YtpbhdlhbcfkhfaaGreat
