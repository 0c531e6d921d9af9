/-
  Plain facts on samples in chunks: where a time stands, what putting, dropping, splitting and joining makes of a list of rising times.
-/
import Derived.Test.YtpbhdlhbcfkhfaaGreatDMath
import Derived.Test.YtpbhdlhbcfkhfaaGreatPMerge
namespace Go.Proofs.YtpbhdlhbcfkhfaaGreat
set_option linter.unusedVariables false
set_option linter.unusedSimpArgs false

/-! How many of the first n places a test that falls once holds at. -/
def cnt (n : Nat) (q : Nat → Bool) : Nat := (List.range n).countP q
theorem cnt_zero (q : Nat → Bool) : cnt 0 q = 0 := rfl
theorem cnt_succ (n : Nat) (q : Nat → Bool) : cnt (n + 1) q = cnt n q + if q n = true then 1 else 0 := by
  unfold cnt; rw [List.range_succ, List.countP_append, List.countP_cons, List.countP_nil]; omega
theorem cnt_le (n : Nat) (q : Nat → Bool) : cnt n q ≤ n := by
  induction n with
  | zero => exact Nat.le_refl _
  | succ n ih => rw [cnt_succ]; split <;> omega
theorem cnt_all (n : Nat) (q : Nat → Bool) (h : ∀ i, i < n → q i = true) : cnt n q = n := by
  induction n with
  | zero => rfl
  | succ n ih => rw [cnt_succ, ih (fun i hi => h i (by omega)), if_pos (h n (by omega))]
theorem cnt_iff (n : Nat) (q : Nat → Bool) (hq : ∀ i j, i ≤ j → j < n → q j = true → q i = true) (i : Nat) (hi : i < n) : q i = true ↔ i < cnt n q := by
  induction n with
  | zero => omega
  | succ n ih =>
    rw [cnt_succ]
    by_cases hn : q n = true
    · have ha := cnt_all n q (fun j hj => hq j n (by omega) (by omega) hn)
      rw [ha, if_pos hn]
      exact ⟨fun _ => by omega, fun _ => hq i n (by omega) (by omega) hn⟩
    · rw [if_neg hn, Nat.add_zero]
      have ih' := ih (fun a b hab hb h => hq a b hab (by omega) h)
      by_cases hin : i < n
      · exact ih' hin
      · obtain rfl : i = n := by omega
        have := cnt_le i q
        exact ⟨fun h => absurd h hn, fun h => by omega⟩
theorem cnt_is (n : Nat) (q : Nat → Bool) (k : Nat) (hk : k ≤ n) (h1 : ∀ i, i < k → q i = true) (h2 : ∀ i, k ≤ i → i < n → q i = false) : cnt n q = k := by
  induction n with
  | zero => rw [cnt_zero]; omega
  | succ n ih =>
    rw [cnt_succ]
    by_cases h : k ≤ n
    · rw [ih h (fun i hi hn => h2 i hi (by omega)), h2 n h (by omega)]; simp
    · obtain rfl : k = n + 1 := by omega
      rw [cnt_all n q (fun i hi => h1 i (by omega)), if_pos (h1 n (by omega))]

/-! Rising times. -/
def Rising (z : List (Int × Int)) : Prop := ∀ i j, i < j → j < z.length → tOf z i < tOf z j
def bef (z : List (Int × Int)) (t : Int) : Nat := cnt z.length fun i => decide (tOf z i < t)
def upt (z : List (Int × Int)) (t : Int) : Nat := cnt z.length fun i => decide (tOf z i ≤ t)

theorem bef_le (z : List (Int × Int)) (t : Int) : bef z t ≤ z.length := cnt_le _ _
theorem upt_le (z : List (Int × Int)) (t : Int) : upt z t ≤ z.length := cnt_le _ _
theorem rising_le {z : List (Int × Int)} (h : Rising z) (i j : Nat) (hij : i ≤ j) (hj : j < z.length) : tOf z i ≤ tOf z j := by
  by_cases e : i = j
  · subst e; exact Int.le_refl _
  · have := h i j (by omega) hj; omega
theorem bef_iff {z : List (Int × Int)} (h : Rising z) (t : Int) (i : Nat) (hi : i < z.length) : tOf z i < t ↔ i < bef z t := by
  have := cnt_iff z.length (fun i => decide (tOf z i < t)) (fun a b hab hb hq => by
    have := rising_le h a b hab hb; simp at hq ⊢; omega) i hi
  unfold bef
  simpa using this
theorem upt_iff {z : List (Int × Int)} (h : Rising z) (t : Int) (i : Nat) (hi : i < z.length) : tOf z i ≤ t ↔ i < upt z t := by
  have := cnt_iff z.length (fun i => decide (tOf z i ≤ t)) (fun a b hab hb hq => by
    have := rising_le h a b hab hb; simp at hq ⊢; omega) i hi
  unfold upt
  simpa using this
theorem bef_le_upt {z : List (Int × Int)} (h : Rising z) (t : Int) : bef z t ≤ upt z t := by
  apply Classical.byContradiction
  intro hn
  have hl := bef_le z t
  have h1 := (bef_iff h t (upt z t) (by omega)).2 (by omega)
  have h2 := (upt_iff h t (upt z t) (by omega)).1 (by omega)
  omega
theorem upt_le_bef {z : List (Int × Int)} (h : Rising z) (t : Int) : upt z t ≤ bef z t + 1 := by
  apply Classical.byContradiction
  intro hn
  have hl := upt_le z t
  have h1 := (upt_iff h t (bef z t + 1) (by omega)).2 (by omega)
  have h2 : ¬ tOf z (bef z t) < t := fun e => by have := (bef_iff h t (bef z t) (by omega)).1 e; omega
  have := h (bef z t) (bef z t + 1) (by omega) (by omega)
  omega
/-- A sample of the time is there. -/
theorem at_time {z : List (Int × Int)} (h : Rising z) (t : Int) : bef z t < upt z t ↔ bef z t < z.length ∧ tOf z (bef z t) = t := by
  have h1 := upt_le z t
  constructor
  · intro hlt
    have a1 := (upt_iff h t (bef z t) (by omega)).2 hlt
    have a2 : ¬ tOf z (bef z t) < t := fun e => by have := (bef_iff h t (bef z t) (by omega)).1 e; omega
    exact ⟨by omega, by omega⟩
  · rintro ⟨a, b⟩
    exact (upt_iff h t (bef z t) a).1 (by omega)
theorem at_is {z : List (Int × Int)} (h : Rising z) (t : Int) (i : Nat) (hi : i < z.length) (ht : tOf z i = t) : bef z t = i ∧ upt z t = i + 1 := by
  have a : ¬ i < bef z t := fun e => by have := (bef_iff h t i hi).2 e; omega
  have b : i < upt z t := (upt_iff h t i hi).1 (by omega)
  have c := upt_le_bef h t
  omega

theorem tOf_take (z : List (Int × Int)) (k i : Nat) (h : i < k) : (z.take k).getD i (0, 0) = z.getD i (0, 0) := by
  simp [List.getD_eq_getElem?_getD, List.getElem?_take, h]
theorem getD_drop (z : List (Int × Int)) (k i : Nat) : (z.drop k).getD i (0, 0) = z.getD (k + i) (0, 0) := by
  simp [List.getD_eq_getElem?_getD]
theorem getD_app_left (x y : List (Int × Int)) (i : Nat) (h : i < x.length) : (x ++ y).getD i (0, 0) = x.getD i (0, 0) := by
  simp [List.getD_eq_getElem?_getD, List.getElem?_append_left h]
theorem getD_app_right (x y : List (Int × Int)) (i : Nat) (h : x.length ≤ i) : (x ++ y).getD i (0, 0) = y.getD (i - x.length) (0, 0) := by
  simp [List.getD_eq_getElem?_getD, List.getElem?_append_right h]

theorem rising_nil : Rising [] := by intro i j _ hj; simp at hj
theorem rising_take {z : List (Int × Int)} (h : Rising z) (k : Nat) : Rising (z.take k) := by
  intro i j hij hj
  simp at hj
  unfold tOf
  rw [tOf_take z k i (by omega), tOf_take z k j (by omega)]
  exact h i j hij (by omega)
theorem rising_drop {z : List (Int × Int)} (h : Rising z) (k : Nat) : Rising (z.drop k) := by
  intro i j hij hj
  simp at hj
  unfold tOf
  rw [getD_drop, getD_drop]
  exact h (k + i) (k + j) (by omega) (by omega)
theorem rising_app {x y : List (Int × Int)} (hx : Rising x) (hy : Rising y) (h : ∀ i j, i < x.length → j < y.length → tOf x i < tOf y j) : Rising (x ++ y) := by
  intro i j hij hj
  simp at hj
  unfold tOf
  by_cases h1 : j < x.length
  · rw [getD_app_left x y i (by omega), getD_app_left x y j h1]; exact hx i j hij h1
  · rw [getD_app_right x y j (by omega)]
    by_cases h2 : i < x.length
    · rw [getD_app_left x y i h2]; exact h i (j - x.length) h2 (by omega)
    · rw [getD_app_right x y i (by omega)]; exact hy _ _ (by omega) (by omega)
theorem rising_one (x : Int × Int) : Rising [x] := by intro i j hij hj; simp at hj; omega

theorem all64_take {z : List (Int × Int)} (h : All64 z) (k : Nat) : All64 (z.take k) := fun x hx => h x (List.mem_of_mem_take hx)
theorem all64_drop {z : List (Int × Int)} (h : All64 z) (k : Nat) : All64 (z.drop k) := fun x hx => h x (List.mem_of_mem_drop hx)
theorem all64_app {x y : List (Int × Int)} (hx : All64 x) (hy : All64 y) : All64 (x ++ y) := fun u hu => by
  rcases List.mem_append.1 hu with h | h
  · exact hx u h
  · exact hy u h
theorem all64_nil : All64 [] := by intro x hx; cases hx
theorem all64_one {a b : Int} (ha : in64 a) (hb : in64 b) : All64 [(a, b)] := by
  intro x hx; simp at hx; subst hx; exact ⟨ha, hb⟩

/-! Bits. -/
def bitsZ (z : List (Int × Int)) : Nat := (encTo z z.length).length
theorem encTo_take (z : List (Int × Int)) (k : Nat) : encTo (z.take k) k = encTo z k :=
  encTo_congr k fun i hi => tOf_take z k i hi
theorem bitsZ_take (z : List (Int × Int)) (k : Nat) (h : k ≤ z.length) : bitsZ (z.take k) = (encTo z k).length := by
  unfold bitsZ
  rw [List.length_take, Nat.min_eq_left h, encTo_take]
theorem encTo_mono (z : List (Int × Int)) (i j : Nat) (h : i ≤ j) : (encTo z i).length ≤ (encTo z j).length := by
  induction j with
  | zero => obtain rfl : i = 0 := by omega
            exact Nat.le_refl _
  | succ j ih =>
    by_cases e : i = j + 1
    · subst e; exact Nat.le_refl _
    · have := ih (by omega)
      rw [encTo, List.length_append]; omega
theorem bitsZ_le (z : List (Int × Int)) : bitsZ z ≤ 136 * z.length := encTo_le z _

/-! The calls, on lists. -/
def insL (z : List (Int × Int)) (t v : Int) : List (Int × Int) := z.take (bef z t) ++ [(t, v)] ++ z.drop (upt z t)
/-- What is put for a time: the number, or what the policy makes, and an error. -/
def newV (z : List (Int × Int)) (t v p : Int) : Int × Int := if bef z t < upt z t then mergeS p (vOf z (bef z t)) v else (v, 0)
def putL (sz : Int) (z : List (Int × Int)) (t v p : Int) : Int × List (Int × Int) :=
  if t < 0 ∨ 1099511627776 ≤ t then (1, z)
  else if (newV z t v p).2 ≠ 0 then ((newV z t v p).2, z)
  else if 8 * sz < (bitsZ (insL z t (newV z t v p).1) : Int) then (2, z)
  else (0, insL z t (newV z t v p).1)
def dropL (z : List (Int × Int)) (a b : Int) : List (Int × Int) := if upt z b ≤ bef z a then z else z.take (bef z a) ++ z.drop (upt z b)
def dropN (z : List (Int × Int)) (a b : Int) : Nat := upt z b - bef z a
def getL (z : List (Int × Int)) (t : Int) : Int × Int := if bef z t < upt z t then (vOf z (bef z t), 0) else (0, 5)
def halfK (z : List (Int × Int)) : Nat := 1 + cnt (z.length - 2) fun i => decide (2 * (encTo z (i + 1)).length < bitsZ z)
def meets (x y : List (Int × Int)) : Prop := 0 < x.length ∧ 0 < y.length ∧ tOf y 0 ≤ tOf x (x.length - 1)
def usedL (z : List (Int × Int)) : Nat := (bitsZ z + 7) / 8

theorem halfK_le (z : List (Int × Int)) (h : 2 ≤ z.length) : 1 ≤ halfK z ∧ halfK z ≤ z.length - 1 := by
  have := cnt_le (z.length - 2) fun i => decide (2 * (encTo z (i + 1)).length < bitsZ z)
  unfold halfK; omega
theorem halfK_iff (z : List (Int × Int)) (i : Nat) (hi : i < z.length - 2) : 2 * (encTo z (i + 1)).length < bitsZ z ↔ i + 1 < halfK z := by
  have := cnt_iff (z.length - 2) (fun i => decide (2 * (encTo z (i + 1)).length < bitsZ z)) (fun a b hab hb hq => by
    have := encTo_mono z (a + 1) (b + 1) (by omega); simp at hq ⊢; omega) i hi
  unfold halfK
  simp at this
  omega
theorem halfK_is (z : List (Int × Int)) (k : Nat) (h1 : 1 ≤ k) (h2 : k ≤ z.length - 1) (h3 : ∀ i, 1 ≤ i → i < k → 2 * (encTo z i).length < bitsZ z) (h4 : k < z.length - 1 → bitsZ z ≤ 2 * (encTo z k).length) : halfK z = k := by
  unfold halfK
  rw [cnt_is (z.length - 2) _ (k - 1) (by omega) (fun i hi => by have := h3 (i + 1) (by omega) (by omega); simpa using this) (fun i hi hn => by
    have a := h4 (by omega)
    have b := encTo_mono z k (i + 1) (by omega)
    simp; omega)]
  omega

theorem insL_length (z : List (Int × Int)) (t v : Int) (h : Rising z) : (insL z t v).length = z.length + 1 - (upt z t - bef z t) := by
  have h1 := bef_le z t
  have h2 := upt_le z t
  have h3 := bef_le_upt h t
  have h4 := upt_le_bef h t
  simp [insL]; omega
theorem insL_rising {z : List (Int × Int)} (h : Rising z) (t v : Int) : Rising (insL z t v) := by
  have h1 := bef_le z t
  unfold insL
  refine rising_app (rising_app (rising_take h _) (rising_one _) ?_) (rising_drop h _) ?_
  · intro i j hi hj
    simp at hi hj
    subst hj
    have := (bef_iff h t i (by omega)).2 (by omega)
    unfold tOf at *
    rw [tOf_take z _ i (by omega)]
    simpa using this
  · intro i j hi hj
    simp at hi hj
    have a : ¬ tOf z (upt z t + j) ≤ t := fun e => by have := (upt_iff h t _ (by omega)).1 e; omega
    have b : tOf (z.take (bef z t) ++ [(t, v)]) i ≤ t := by
      by_cases hb : i < bef z t
      · have := (bef_iff h t i (by omega)).2 hb
        unfold tOf at *
        rw [getD_app_left _ _ _ (by simp; omega), tOf_take z _ i hb]; omega
      · unfold tOf
        rw [getD_app_right _ _ _ (by simp; omega)]
        have : i - (z.take (bef z t)).length = 0 := by simp; omega
        rw [this]; simp
    unfold tOf at *
    rw [getD_drop]; omega
theorem insL_all64 {z : List (Int × Int)} (h : All64 z) {t v : Int} (ht : in64 t) (hv : in64 v) : All64 (insL z t v) :=
  all64_app (all64_app (all64_take h _) (all64_one ht hv)) (all64_drop h _)
theorem newV_in {z : List (Int × Int)} (h : All64 z) {t v p : Int} (hv : in64 v) : in64 (newV z t v p).1 := by
  unfold newV
  split
  · exact mergeS_in _ _ _ (all64_at h _).2 hv
  · exact hv
theorem putL_rising {z : List (Int × Int)} (h : Rising z) (sz t v p : Int) : Rising (putL sz z t v p).2 := by
  unfold putL
  (repeat' split) <;> first | exact h | exact insL_rising h _ _
theorem putL_length {z : List (Int × Int)} (h : Rising z) (sz t v p : Int) : (putL sz z t v p).2.length ≤ z.length + 1 := by
  unfold putL
  (repeat' split) <;> first | (simp only []; omega) | (simp only [insL_length z t _ h]; omega)
theorem putL_all64 {z : List (Int × Int)} (h : All64 z) {sz t v p : Int} (ht : in64 t) (hv : in64 v) : All64 (putL sz z t v p).2 := by
  unfold putL
  (repeat' split) <;> first | exact h | exact insL_all64 h ht (newV_in h hv)

theorem dropL_length (z : List (Int × Int)) (a b : Int) : (dropL z a b).length = z.length - dropN z a b := by
  have h1 := bef_le z a
  have h2 := upt_le z b
  unfold dropL dropN
  split
  · omega
  · simp; omega
theorem dropL_rising {z : List (Int × Int)} (h : Rising z) (a b : Int) : Rising (dropL z a b) := by
  unfold dropL
  split
  · exact h
  · have h1 := bef_le z a
    refine rising_app (rising_take h _) (rising_drop h _) ?_
    intro i j hi hj
    simp at hi hj
    unfold tOf
    rw [tOf_take z _ i (by omega), getD_drop]
    exact h i (upt z b + j) (by omega) (by omega)
theorem dropL_all64 {z : List (Int × Int)} (h : All64 z) (a b : Int) : All64 (dropL z a b) := by
  unfold dropL
  split
  · exact h
  · exact all64_app (all64_take h _) (all64_drop h _)
/-- What is dropped is what has a time between. -/
theorem filter_is {z : List (Int × Int)} (h : Rising z) (a b : Int) : z.filter (fun x => decide (x.1 < a) || decide (b < x.1)) = dropL z a b := by
  have h1 := bef_le z a
  have h2 := upt_le z b
  have mem : ∀ x ∈ z, ∃ i, ∃ hi : i < z.length, x = z[i] ∧ x.1 = tOf z i := by
    intro x hx
    obtain ⟨i, hi, rfl⟩ := List.mem_iff_getElem.1 hx
    exact ⟨i, hi, rfl, by unfold tOf; rw [List.getD_eq_getElem?_getD, List.getElem?_eq_getElem hi]; rfl⟩
  unfold dropL
  split
  · rename_i hle
    apply List.filter_eq_self.2
    intro x hx
    obtain ⟨i, hi, _, ht⟩ := mem x hx
    rw [ht]
    by_cases hia : i < bef z a
    · have := (bef_iff h a i hi).2 hia; simp; left; exact this
    · have : ¬ tOf z i ≤ b := fun e => by have := (upt_iff h b i hi).1 e; omega
      simp; right; omega
  · rename_i hlt
    have hz : z = z.take (bef z a) ++ ((z.drop (bef z a)).take (upt z b - bef z a) ++ z.drop (upt z b)) := by
      have e : z.drop (upt z b) = (z.drop (bef z a)).drop (upt z b - bef z a) := by rw [List.drop_drop]; congr 1; omega
      rw [e, List.take_append_drop, List.take_append_drop]
    have p1 : (z.take (bef z a)).filter (fun x => decide (x.1 < a) || decide (b < x.1)) = z.take (bef z a) := by
      apply List.filter_eq_self.2
      intro x hx
      obtain ⟨i, hi, rfl⟩ := List.mem_iff_getElem.1 hx
      simp at hi
      have := (bef_iff h a i (by omega)).2 (by omega)
      unfold tOf at this
      rw [List.getD_eq_getElem?_getD, List.getElem?_eq_getElem (by omega)] at this
      simp at this ⊢
      left; exact this
    have p2 : ((z.drop (bef z a)).take (upt z b - bef z a)).filter (fun x => decide (x.1 < a) || decide (b < x.1)) = [] := by
      apply List.filter_eq_nil_iff.2
      intro x hx
      obtain ⟨i, hi, rfl⟩ := List.mem_iff_getElem.1 hx
      simp at hi
      have a1 : ¬ tOf z (bef z a + i) < a := fun e => by have := (bef_iff h a _ (by omega)).1 e; omega
      have a2 := (upt_iff h b (bef z a + i) (by omega)).2 (by omega)
      unfold tOf at a1 a2
      rw [List.getD_eq_getElem?_getD, List.getElem?_eq_getElem (by omega)] at a1 a2
      simp at a1 a2 ⊢
      exact ⟨a1, a2⟩
    have p3 : (z.drop (upt z b)).filter (fun x => decide (x.1 < a) || decide (b < x.1)) = z.drop (upt z b) := by
      apply List.filter_eq_self.2
      intro x hx
      obtain ⟨i, hi, rfl⟩ := List.mem_iff_getElem.1 hx
      simp at hi
      have a2 : ¬ tOf z (upt z b + i) ≤ b := fun e => by have := (upt_iff h b _ (by omega)).1 e; omega
      unfold tOf at a2
      rw [List.getD_eq_getElem?_getD, List.getElem?_eq_getElem (by omega)] at a2
      simp at a2 ⊢
      right; exact a2
    conv => lhs; rw [hz]
    rw [List.filter_append, List.filter_append, p1, p2, p3, List.nil_append]

theorem join_rising {x y : List (Int × Int)} (hx : Rising x) (hy : Rising y) (h : ¬ meets x y) : Rising (x ++ y) := by
  refine rising_app hx hy fun i j hi hj => ?_
  have a := rising_le hx i (x.length - 1) (by omega) (by omega)
  have b := rising_le hy 0 j (by omega) hj
  have c : ¬ tOf y 0 ≤ tOf x (x.length - 1) := fun e => h ⟨by omega, by omega, e⟩
  omega

end Go.Proofs.YtpbhdlhbcfkhfaaGreat
