/-
  Contracts.
-/
import Derived.Test.YtmifpfojhlmbkaaGreatJ4
import Derived.Test.YtmifpfojhlmbkaaGreatJ7
namespace Go.Proofs.YtmifpfojhlmbkaaGreat
open Lib (hid)
set_option maxRecDepth 100000
set_option maxHeartbeats 16000000
set_option linter.unusedVariables false
set_option linter.unusedSimpArgs false
def cnt (n : Nat) (q : Nat → Bool) : Nat := (List.range n).countP q
theorem cnt_zero (q : Nat → Bool) : cnt 0 q = 0 := rfl
theorem cnt_succ (n : Nat) (q : Nat → Bool) : cnt (n + 1) q = cnt n q + if q n = true then 1 else 0 := by
  unfold cnt; rw [List.range_succ, List.countP_append, List.countP_cons, List.countP_nil]; omega
theorem cnt_le (n : Nat) (q : Nat → Bool) : cnt n q ≤ n := by
  induction n with
  | zero => exact Nat.le_refl _
  | succ n ih => rw [cnt_succ]; split <;> omega
theorem cnt_all (n : Nat) (q : Nat → Bool) (h : ∀ i, i < n → q i = true) : cnt n q = n := by
  induction n with
  | zero => rfl
  | succ n ih => rw [cnt_succ, ih (fun i hi => h i (by omega)), if_pos (h n (by omega))]
theorem cnt_iff (n : Nat) (q : Nat → Bool) (hq : ∀ i j, i ≤ j → j < n → q j = true → q i = true) (i : Nat) (hi : i < n) : q i = true ↔ i < cnt n q := by
  induction n with
  | zero => omega
  | succ n ih =>
    rw [cnt_succ]
    by_cases hn : q n = true
    · have ha := cnt_all n q (fun j hj => hq j n (by omega) (by omega) hn)
      rw [ha, if_pos hn]
      exact ⟨fun _ => by omega, fun _ => hq i n (by omega) (by omega) hn⟩
    · rw [if_neg hn, Nat.add_zero]
      have ih' := ih (fun a b hab hb h => hq a b hab (by omega) h)
      by_cases hin : i < n
      · exact ih' hin
      · obtain rfl : i = n := by omega
        have := cnt_le i q
        exact ⟨fun h => absurd h hn, fun h => by omega⟩
theorem cnt_is (n : Nat) (q : Nat → Bool) (k : Nat) (hk : k ≤ n) (h1 : ∀ i, i < k → q i = true) (h2 : ∀ i, k ≤ i → i < n → q i = false) : cnt n q = k := by
  induction n with
  | zero => rw [cnt_zero]; omega
  | succ n ih =>
    rw [cnt_succ]
    by_cases h : k ≤ n
    · rw [ih h (fun i hi hn => h2 i hi (by omega)), h2 n h (by omega)]; simp
    · obtain rfl : k = n + 1 := by omega
      rw [cnt_all n q (fun i hi => h1 i (by omega)), if_pos (h1 n (by omega))]
def Rising (z : List (Int × Int)) : Prop := ∀ i j, i < j → j < z.length → tOf z i < tOf z j
def bef (z : List (Int × Int)) (t : Int) : Nat := cnt z.length fun i => decide (tOf z i < t)
def upt (z : List (Int × Int)) (t : Int) : Nat := cnt z.length fun i => decide (tOf z i ≤ t)
theorem bef_le (z : List (Int × Int)) (t : Int) : bef z t ≤ z.length := cnt_le _ _
theorem upt_le (z : List (Int × Int)) (t : Int) : upt z t ≤ z.length := cnt_le _ _
theorem rising_le {z : List (Int × Int)} (h : Rising z) (i j : Nat) (hij : i ≤ j) (hj : j < z.length) : tOf z i ≤ tOf z j := by
  by_cases e : i = j
  · subst e; exact Int.le_refl _
  · have := h i j (by omega) hj; omega
theorem bef_iff {z : List (Int × Int)} (h : Rising z) (t : Int) (i : Nat) (hi : i < z.length) : tOf z i < t ↔ i < bef z t := by
  have := cnt_iff z.length (fun i => decide (tOf z i < t)) (fun a b hab hb hq => by
    have := rising_le h a b hab hb; simp at hq ⊢; omega) i hi
  unfold bef
  simpa using this
theorem upt_iff {z : List (Int × Int)} (h : Rising z) (t : Int) (i : Nat) (hi : i < z.length) : tOf z i ≤ t ↔ i < upt z t := by
  have := cnt_iff z.length (fun i => decide (tOf z i ≤ t)) (fun a b hab hb hq => by
    have := rising_le h a b hab hb; simp at hq ⊢; omega) i hi
  unfold upt
  simpa using this
theorem bef_le_upt {z : List (Int × Int)} (h : Rising z) (t : Int) : bef z t ≤ upt z t := by
  apply Classical.byContradiction
  intro hn
  have hl := bef_le z t
  have h1 := (bef_iff h t (upt z t) (by omega)).2 (by omega)
  have h2 := (upt_iff h t (upt z t) (by omega)).1 (by omega)
  omega
theorem upt_le_bef {z : List (Int × Int)} (h : Rising z) (t : Int) : upt z t ≤ bef z t + 1 := by
  apply Classical.byContradiction
  intro hn
  have hl := upt_le z t
  have h1 := (upt_iff h t (bef z t + 1) (by omega)).2 (by omega)
  have h2 : ¬ tOf z (bef z t) < t := fun e => by have := (bef_iff h t (bef z t) (by omega)).1 e; omega
  have := h (bef z t) (bef z t + 1) (by omega) (by omega)
  omega
theorem at_time {z : List (Int × Int)} (h : Rising z) (t : Int) : bef z t < upt z t ↔ bef z t < z.length ∧ tOf z (bef z t) = t := by
  have h1 := upt_le z t
  constructor
  · intro hlt
    have a1 := (upt_iff h t (bef z t) (by omega)).2 hlt
    have a2 : ¬ tOf z (bef z t) < t := fun e => by have := (bef_iff h t (bef z t) (by omega)).1 e; omega
    exact ⟨by omega, by omega⟩
  · rintro ⟨a, b⟩
    exact (upt_iff h t (bef z t) a).1 (by omega)
theorem at_is {z : List (Int × Int)} (h : Rising z) (t : Int) (i : Nat) (hi : i < z.length) (ht : tOf z i = t) : bef z t = i ∧ upt z t = i + 1 := by
  have a : ¬ i < bef z t := fun e => by have := (bef_iff h t i hi).2 e; omega
  have b : i < upt z t := (upt_iff h t i hi).1 (by omega)
  have c := upt_le_bef h t
  omega
theorem tOf_take (z : List (Int × Int)) (k i : Nat) (h : i < k) : (z.take k).getD i (0, 0) = z.getD i (0, 0) := by
  simp [List.getD_eq_getElem?_getD, List.getElem?_take, h]
theorem getD_drop (z : List (Int × Int)) (k i : Nat) : (z.drop k).getD i (0, 0) = z.getD (k + i) (0, 0) := by
  simp [List.getD_eq_getElem?_getD]
theorem getD_app_left (x y : List (Int × Int)) (i : Nat) (h : i < x.length) : (x ++ y).getD i (0, 0) = x.getD i (0, 0) := by
  simp [List.getD_eq_getElem?_getD, List.getElem?_append_left h]
theorem getD_app_right (x y : List (Int × Int)) (i : Nat) (h : x.length ≤ i) : (x ++ y).getD i (0, 0) = y.getD (i - x.length) (0, 0) := by
  simp [List.getD_eq_getElem?_getD, List.getElem?_append_right h]
theorem rising_nil : Rising [] := by intro i j _ hj; simp at hj
theorem rising_take {z : List (Int × Int)} (h : Rising z) (k : Nat) : Rising (z.take k) := by
  intro i j hij hj
  simp at hj
  unfold tOf
  rw [tOf_take z k i (by omega), tOf_take z k j (by omega)]
  exact h i j hij (by omega)
theorem rising_drop {z : List (Int × Int)} (h : Rising z) (k : Nat) : Rising (z.drop k) := by
  intro i j hij hj
  simp at hj
  unfold tOf
  rw [getD_drop, getD_drop]
  exact h (k + i) (k + j) (by omega) (by omega)
theorem rising_app {x y : List (Int × Int)} (hx : Rising x) (hy : Rising y) (h : ∀ i j, i < x.length → j < y.length → tOf x i < tOf y j) : Rising (x ++ y) := by
  intro i j hij hj
  simp at hj
  unfold tOf
  by_cases h1 : j < x.length
  · rw [getD_app_left x y i (by omega), getD_app_left x y j h1]; exact hx i j hij h1
  · rw [getD_app_right x y j (by omega)]
    by_cases h2 : i < x.length
    · rw [getD_app_left x y i h2]; exact h i (j - x.length) h2 (by omega)
    · rw [getD_app_right x y i (by omega)]; exact hy _ _ (by omega) (by omega)
theorem rising_one (x : Int × Int) : Rising [x] := by intro i j hij hj; simp at hj; omega
theorem all64_app {x y : List (Int × Int)} (hx : All64 x) (hy : All64 y) : All64 (x ++ y) := fun u hu => by
  rcases List.mem_append.1 hu with h | h
  · exact hx u h
  · exact hy u h
theorem all64_nil : All64 [] := by intro x hx; cases hx
theorem all64_one {a b : Int} (ha : in64 a) (hb : in64 b) : All64 [(a, b)] := by
  intro x hx; simp at hx; subst hx; exact ⟨ha, hb⟩
def bitsZ (z : List (Int × Int)) : Nat := (encTo z z.length).length
theorem encTo_take (z : List (Int × Int)) (k : Nat) : encTo (z.take k) k = encTo z k :=
  encTo_congr k fun i hi => tOf_take z k i hi
theorem bitsZ_take (z : List (Int × Int)) (k : Nat) (h : k ≤ z.length) : bitsZ (z.take k) = (encTo z k).length := by
  unfold bitsZ
  rw [List.length_take, Nat.min_eq_left h, encTo_take]
theorem encTo_mono (z : List (Int × Int)) (i j : Nat) (h : i ≤ j) : (encTo z i).length ≤ (encTo z j).length := by
  induction j with
  | zero => obtain rfl : i = 0 := by omega
            exact Nat.le_refl _
  | succ j ih =>
    by_cases e : i = j + 1
    · subst e; exact Nat.le_refl _
    · have := ih (by omega)
      rw [encTo, List.length_append]; omega
theorem bitsZ_le (z : List (Int × Int)) : bitsZ z ≤ 136 * z.length := encTo_le z _
def insL (z : List (Int × Int)) (t v : Int) : List (Int × Int) := z.take (bef z t) ++ [(t, v)] ++ z.drop (upt z t)
def newV (z : List (Int × Int)) (t v p : Int) : Int × Int := if bef z t < upt z t then mergeS p (vOf z (bef z t)) v else (v, 0)
def putL (sz : Int) (z : List (Int × Int)) (t v p : Int) : Int × List (Int × Int) :=
  if t < 0 ∨ 1099511627776 ≤ t then (1, z)
  else if (newV z t v p).2 ≠ 0 then ((newV z t v p).2, z)
  else if 8 * sz < (bitsZ (insL z t (newV z t v p).1) : Int) then (2, z)
  else (0, insL z t (newV z t v p).1)
def dropL (z : List (Int × Int)) (a b : Int) : List (Int × Int) := if upt z b ≤ bef z a then z else z.take (bef z a) ++ z.drop (upt z b)
def dropN (z : List (Int × Int)) (a b : Int) : Nat := upt z b - bef z a
def getL (z : List (Int × Int)) (t : Int) : Int × Int := if bef z t < upt z t then (vOf z (bef z t), 0) else (0, 5)
def halfK (z : List (Int × Int)) : Nat := 1 + cnt (z.length - 2) fun i => decide (2 * (encTo z (i + 1)).length < bitsZ z)
def meets (x y : List (Int × Int)) : Prop := 0 < x.length ∧ 0 < y.length ∧ tOf y 0 ≤ tOf x (x.length - 1)
def usedL (z : List (Int × Int)) : Nat := (bitsZ z + 7) / 8
theorem halfK_le (z : List (Int × Int)) (h : 2 ≤ z.length) : 1 ≤ halfK z ∧ halfK z ≤ z.length - 1 := by
  have := cnt_le (z.length - 2) fun i => decide (2 * (encTo z (i + 1)).length < bitsZ z)
  unfold halfK; omega
theorem halfK_iff (z : List (Int × Int)) (i : Nat) (hi : i < z.length - 2) : 2 * (encTo z (i + 1)).length < bitsZ z ↔ i + 1 < halfK z := by
  have := cnt_iff (z.length - 2) (fun i => decide (2 * (encTo z (i + 1)).length < bitsZ z)) (fun a b hab hb hq => by
    have := encTo_mono z (a + 1) (b + 1) (by omega); simp at hq ⊢; omega) i hi
  unfold halfK
  simp at this
  omega
theorem insL_length (z : List (Int × Int)) (t v : Int) (h : Rising z) : (insL z t v).length = z.length + 1 - (upt z t - bef z t) := by
  have h1 := bef_le z t
  have h2 := upt_le z t
  have h3 := bef_le_upt h t
  have h4 := upt_le_bef h t
  simp [insL]; omega
theorem insL_rising {z : List (Int × Int)} (h : Rising z) (t v : Int) : Rising (insL z t v) := by
  have h1 := bef_le z t
  unfold insL
  refine rising_app (rising_app (rising_take h _) (rising_one _) ?_) (rising_drop h _) ?_
  · intro i j hi hj
    simp at hi hj
    subst hj
    have := (bef_iff h t i (by omega)).2 (by omega)
    unfold tOf at *
    rw [tOf_take z _ i (by omega)]
    simpa using this
  · intro i j hi hj
    simp at hi hj
    have a : ¬ tOf z (upt z t + j) ≤ t := fun e => by have := (upt_iff h t _ (by omega)).1 e; omega
    have b : tOf (z.take (bef z t) ++ [(t, v)]) i ≤ t := by
      by_cases hb : i < bef z t
      · have := (bef_iff h t i (by omega)).2 hb
        unfold tOf at *
        rw [getD_app_left _ _ _ (by simp; omega), tOf_take z _ i hb]; omega
      · unfold tOf
        rw [getD_app_right _ _ _ (by simp; omega)]
        have : i - (z.take (bef z t)).length = 0 := by simp; omega
        rw [this]; simp
    unfold tOf at *
    rw [getD_drop]; omega
theorem insL_all64 {z : List (Int × Int)} (h : All64 z) {t v : Int} (ht : in64 t) (hv : in64 v) : All64 (insL z t v) :=
  all64_app (all64_app (all64_take h _) (all64_one ht hv)) (all64_drop h _)
theorem newV_in {z : List (Int × Int)} (h : All64 z) {t v p : Int} (hv : in64 v) : in64 (newV z t v p).1 := by
  unfold newV
  split
  · exact mergeS_in _ _ _ (all64_at h _).2 hv
  · exact hv
theorem dropL_length (z : List (Int × Int)) (a b : Int) : (dropL z a b).length = z.length - dropN z a b := by
  have h1 := bef_le z a
  have h2 := upt_le z b
  unfold dropL dropN
  split
  · omega
  · simp; omega
theorem dropL_rising {z : List (Int × Int)} (h : Rising z) (a b : Int) : Rising (dropL z a b) := by
  unfold dropL
  split
  · exact h
  · have h1 := bef_le z a
    refine rising_app (rising_take h _) (rising_drop h _) ?_
    intro i j hi hj
    simp at hi hj
    unfold tOf
    rw [tOf_take z _ i (by omega), getD_drop]
    exact h i (upt z b + j) (by omega) (by omega)
theorem dropL_all64 {z : List (Int × Int)} (h : All64 z) (a b : Int) : All64 (dropL z a b) := by
  unfold dropL
  split
  · exact h
  · exact all64_app (all64_take h _) (all64_drop h _)
theorem filter_is {z : List (Int × Int)} (h : Rising z) (a b : Int) : z.filter (fun x => decide (x.1 < a) || decide (b < x.1)) = dropL z a b := by
  have h1 := bef_le z a
  have h2 := upt_le z b
  have mem : ∀ x ∈ z, ∃ i, ∃ hi : i < z.length, x = z[i] ∧ x.1 = tOf z i := by
    intro x hx
    obtain ⟨i, hi, rfl⟩ := List.mem_iff_getElem.1 hx
    exact ⟨i, hi, rfl, by unfold tOf; rw [List.getD_eq_getElem?_getD, List.getElem?_eq_getElem hi]; rfl⟩
  unfold dropL
  split
  · rename_i hle
    apply List.filter_eq_self.2
    intro x hx
    obtain ⟨i, hi, _, ht⟩ := mem x hx
    rw [ht]
    by_cases hia : i < bef z a
    · have := (bef_iff h a i hi).2 hia; simp; left; exact this
    · have : ¬ tOf z i ≤ b := fun e => by have := (upt_iff h b i hi).1 e; omega
      simp; right; omega
  · rename_i hlt
    have hz : z = z.take (bef z a) ++ ((z.drop (bef z a)).take (upt z b - bef z a) ++ z.drop (upt z b)) := by
      have e : z.drop (upt z b) = (z.drop (bef z a)).drop (upt z b - bef z a) := by rw [List.drop_drop]; congr 1; omega
      rw [e, List.take_append_drop, List.take_append_drop]
    have p1 : (z.take (bef z a)).filter (fun x => decide (x.1 < a) || decide (b < x.1)) = z.take (bef z a) := by
      apply List.filter_eq_self.2
      intro x hx
      obtain ⟨i, hi, rfl⟩ := List.mem_iff_getElem.1 hx
      simp at hi
      have := (bef_iff h a i (by omega)).2 (by omega)
      unfold tOf at this
      rw [List.getD_eq_getElem?_getD, List.getElem?_eq_getElem (by omega)] at this
      simp at this ⊢
      left; exact this
    have p2 : ((z.drop (bef z a)).take (upt z b - bef z a)).filter (fun x => decide (x.1 < a) || decide (b < x.1)) = [] := by
      apply List.filter_eq_nil_iff.2
      intro x hx
      obtain ⟨i, hi, rfl⟩ := List.mem_iff_getElem.1 hx
      simp at hi
      have a1 : ¬ tOf z (bef z a + i) < a := fun e => by have := (bef_iff h a _ (by omega)).1 e; omega
      have a2 := (upt_iff h b (bef z a + i) (by omega)).2 (by omega)
      unfold tOf at a1 a2
      rw [List.getD_eq_getElem?_getD, List.getElem?_eq_getElem (by omega)] at a1 a2
      simp at a1 a2 ⊢
      exact ⟨a1, a2⟩
    have p3 : (z.drop (upt z b)).filter (fun x => decide (x.1 < a) || decide (b < x.1)) = z.drop (upt z b) := by
      apply List.filter_eq_self.2
      intro x hx
      obtain ⟨i, hi, rfl⟩ := List.mem_iff_getElem.1 hx
      simp at hi
      have a2 : ¬ tOf z (upt z b + i) ≤ b := fun e => by have := (upt_iff h b _ (by omega)).1 e; omega
      unfold tOf at a2
      rw [List.getD_eq_getElem?_getD, List.getElem?_eq_getElem (by omega)] at a2
      simp at a2 ⊢
      right; exact a2
    conv => lhs; rw [hz]
    rw [List.filter_append, List.filter_append, p1, p2, p3, List.nil_append]
theorem mem_at {z : List (Int × Int)} {x : Int × Int} (h : x ∈ z) : ∃ i, i < z.length ∧ tOf z i = x.1 ∧ vOf z i = x.2 := by
  obtain ⟨i, hi, rfl⟩ := List.mem_iff_getElem.1 h
  refine ⟨i, hi, ?_, ?_⟩
  · unfold tOf; rw [List.getD_eq_getElem?_getD, List.getElem?_eq_getElem hi]; rfl
  · unfold vOf; rw [List.getD_eq_getElem?_getD, List.getElem?_eq_getElem hi]; rfl
theorem at_mem {z : List (Int × Int)} {i : Nat} (h : i < z.length) : (tOf z i, vOf z i) ∈ z := by
  have : (tOf z i, vOf z i) = z[i] := by
    unfold tOf vOf; rw [List.getD_eq_getElem?_getD, List.getElem?_eq_getElem h]; rfl
  rw [this]; exact List.getElem_mem h
theorem getL_mem {z : List (Int × Int)} (h : Rising z) {t v : Int} (hm : (t, v) ∈ z) : getL z t = (v, 0) := by
  obtain ⟨i, hi, ht, hv⟩ := mem_at hm
  obtain ⟨a, b⟩ := at_is h t i hi ht
  unfold getL
  rw [if_pos (by omega), a, hv]
theorem getL_no {z : List (Int × Int)} (h : Rising z) {t : Int} (hm : ∀ x ∈ z, x.1 ≠ t) : getL z t = (0, 5) := by
  unfold getL
  rw [if_neg]
  intro hlt
  obtain ⟨a, b⟩ := (at_time h t).1 hlt
  exact hm _ (at_mem a) b
theorem getL_same {x y : List (Int × Int)} (hx : Rising x) (hy : Rising y) {t : Int} (h : ∀ v, (t, v) ∈ x ↔ (t, v) ∈ y) : getL x t = getL y t := by
  by_cases e : ∃ v, (t, v) ∈ x
  · obtain ⟨v, hv⟩ := e
    rw [getL_mem hx hv, getL_mem hy ((h v).1 hv)]
  · rw [getL_no hx (fun u hu ht => e ⟨u.2, by rw [← ht]; exact hu⟩), getL_no hy (fun u hu ht => e ⟨u.2, (h u.2).2 (by rw [← ht]; exact hu)⟩)]
theorem dropL_mem {z : List (Int × Int)} (h : Rising z) (a b : Int) (x : Int × Int) : x ∈ dropL z a b ↔ x ∈ z ∧ (x.1 < a ∨ b < x.1) := by
  rw [← filter_is h a b]; simp
theorem insL_mem {z : List (Int × Int)} (h : Rising z) (t v : Int) (x : Int × Int) : x ∈ insL z t v ↔ (x ∈ z ∧ x.1 ≠ t) ∨ x = (t, v) := by
  have e : dropL z t t = z.take (bef z t) ++ z.drop (upt z t) := by
    unfold dropL
    split
    · have := bef_le_upt h t
      rw [show upt z t = bef z t from by omega, List.take_append_drop]
    · rfl
  have d := dropL_mem h t t x
  rw [e] at d
  unfold insL
  simp only [List.mem_append, List.mem_singleton] at d ⊢
  constructor
  · rintro ((h1 | h1) | h1)
    · obtain ⟨a, b⟩ := d.1 (.inl h1); exact .inl ⟨a, by omega⟩
    · exact .inr h1
    · obtain ⟨a, b⟩ := d.1 (.inr h1); exact .inl ⟨a, by omega⟩
  · rintro (⟨h1, h2⟩ | h1)
    · rcases d.2 ⟨h1, by omega⟩ with h3 | h3
      · exact .inl (.inl h3)
      · exact .inr h3
    · exact .inl (.inr h1)
theorem getL_ins {z : List (Int × Int)} (h : Rising z) (t v : Int) : getL (insL z t v) t = (v, 0) :=
  getL_mem (insL_rising h t v) ((insL_mem h t v (t, v)).2 (.inr rfl))
theorem getL_ins_ne {z : List (Int × Int)} (h : Rising z) (t v s : Int) (hne : s ≠ t) : getL (insL z t v) s = getL z s :=
  getL_same (insL_rising h t v) h fun u => by
    rw [insL_mem h]
    constructor
    · rintro (h1 | h1)
      · exact h1.1
      · cases h1; exact absurd rfl hne
    · intro h1; exact .inl ⟨h1, hne⟩
theorem getL_drop {z : List (Int × Int)} (h : Rising z) (a b t : Int) (ht : t < a ∨ b < t) : getL (dropL z a b) t = getL z t :=
  getL_same (dropL_rising h a b) h fun u => by
    rw [dropL_mem h]
    exact ⟨fun h1 => h1.1, fun h1 => ⟨h1, ht⟩⟩
theorem getL_dropped {z : List (Int × Int)} (h : Rising z) (a b t : Int) (ht : ¬ (t < a ∨ b < t)) : getL (dropL z a b) t = (0, 5) :=
  getL_no (dropL_rising h a b) fun x hx e => by
    obtain ⟨_, h2⟩ := (dropL_mem h a b x).1 hx
    rw [e] at h2
    exact ht h2
theorem newV_last (z : List (Int × Int)) (t v : Int) : newV z t v 3 = (v, 0) := by
  unfold newV; split <;> rfl
theorem at_right (x y : List (Int × Int)) (i : Nat) : (x ++ y).getD (x.length + i) (0, 0) = y.getD i (0, 0) := by
  rw [getD_app_right x y _ (by omega)]; congr 1; omega
theorem piece_right (x y : List (Int × Int)) (i : Nat) : piece (x ++ y) (x.length + (i + 2)) = piece y (i + 2) := by
  have a0 := at_right x y i
  have a1 := at_right x y (i + 1)
  have a2 := at_right x y (i + 2)
  have e : x.length + (i + 2) = (x.length + (i + 1)) + 1 := by omega
  have e1 : x.length + (i + 1) = (x.length + i) + 1 := by omega
  rw [e]
  simp only [piece, tNum, vNum]
  have h2 : tOf (x ++ y) (x.length + (i + 1) + 1) = tOf y (i + 1 + 1) := by unfold tOf; rw [← e, a2]
  have h1 : tOf (x ++ y) (x.length + (i + 1)) = tOf y (i + 1) := by unfold tOf; rw [a1]
  have h0 : tOf (x ++ y) (x.length + i) = tOf y i := by unfold tOf; rw [a0]
  have v2 : vOf (x ++ y) (x.length + (i + 1) + 1) = vOf y (i + 1 + 1) := by unfold vOf; rw [← e, a2]
  have v1 : vOf (x ++ y) (x.length + (i + 1)) = vOf y (i + 1) := by unfold vOf; rw [a1]
  have s2 : stepOf (x ++ y) (x.length + (i + 1) + 1) = stepOf y (i + 1 + 1) := by simp only [stepOf]; rw [h2, h1]
  have s1 : stepOf (x ++ y) (x.length + (i + 1)) = stepOf y (i + 1) := by rw [e1]; simp only [stepOf]; rw [← e1, h1, h0]
  rw [s2, s1, v2, v1]
theorem enc_left (x y : List (Int × Int)) : encTo (x ++ y) x.length = encTo x x.length := encTo_congr _ fun i hi => getD_app_left x y i hi
theorem enc_right (x y : List (Int × Int)) (j : Nat) : (encTo (x ++ y) (x.length + (j + 2))).length + (encTo y 2).length = (encTo (x ++ y) (x.length + 2)).length + (encTo y (j + 2)).length := by
  induction j with
  | zero => rfl
  | succ j ih =>
    have e : x.length + (j + 1 + 2) = (x.length + (j + 2)) + 1 := by omega
    have a : (encTo (x ++ y) (x.length + (j + 2) + 1)).length = (encTo (x ++ y) (x.length + (j + 2))).length + (piece y (j + 2)).length := by rw [encTo, List.length_append, piece_right]
    have b : (encTo y (j + 2 + 1)).length = (encTo y (j + 2)).length + (piece y (j + 2)).length := by rw [encTo, List.length_append]
    rw [e, show j + 1 + 2 = (j + 2) + 1 from by omega, a, b]
    omega
theorem enc_app (x y : List (Int × Int)) (j : Nat) : (encTo (x ++ y) (x.length + j)).length ≤ bitsZ x + (encTo y j).length + 144 ∧ bitsZ x + (encTo y j).length ≤ (encTo (x ++ y) (x.length + j)).length + 264 := by
  have h0 : (encTo (x ++ y) x.length).length = bitsZ x := by rw [enc_left]; rfl
  have p0 := piece_le (x ++ y) x.length
  have p1 := piece_le (x ++ y) (x.length + 1)
  have q0 : (piece y 0).length = 128 := by rw [piece_length]; simp
  have q1 := piece_le y 1
  have e1 : (encTo (x ++ y) (x.length + 1)).length = bitsZ x + (piece (x ++ y) x.length).length := by rw [encTo, List.length_append, h0]
  have e2 : (encTo (x ++ y) (x.length + 2)).length = bitsZ x + (piece (x ++ y) x.length).length + (piece (x ++ y) (x.length + 1)).length := by rw [show x.length + 2 = (x.length + 1) + 1 from rfl, encTo, List.length_append, e1]
  have f1 : (encTo y 1).length = 128 := by simp [encTo, q0]
  have f2 : (encTo y 2).length = 128 + (piece y 1).length := by rw [show (2 : Nat) = 1 + 1 from rfl, encTo, List.length_append, f1]
  match j with
  | 0 => simp only [Nat.add_zero, encTo, List.length_nil]; omega
  | 1 => omega
  | j + 2 => have := enc_right x y j; omega
theorem bits_app (x y : List (Int × Int)) : bitsZ (x ++ y) ≤ bitsZ x + bitsZ y + 144 := by
  have := (enc_app x y y.length).1
  unfold bitsZ at *
  rw [List.length_append]; exact this
theorem bits_back (x y : List (Int × Int)) : bitsZ x + bitsZ y ≤ bitsZ (x ++ y) + 264 := by
  have := (enc_app x y y.length).2
  unfold bitsZ at *
  rw [List.length_append]; exact this
theorem bits_front (x y : List (Int × Int)) : bitsZ x ≤ bitsZ (x ++ y) := by
  have := encTo_mono (x ++ y) x.length (x ++ y).length (by simp)
  rw [enc_left] at this
  exact this
def Fit (sz : Int) (z : List (Int × Int)) : Prop := (bitsZ z : Int) ≤ 8 * sz
def Small (sz : Int) (z : List (Int × Int)) : Prop := 4 * (usedL z : Int) < sz
instance (sz : Int) (z : List (Int × Int)) : Decidable (Small sz z) := inferInstanceAs (Decidable (_ < _))
instance (sz : Int) (z : List (Int × Int)) : Decidable (Fit sz z) := inferInstanceAs (Decidable (_ ≤ _))
theorem small_bits {sz : Int} {z : List (Int × Int)} (h : Small sz z) : (bitsZ z : Int) ≤ 2 * sz := by unfold Small usedL at h; omega
theorem used_fit (sz : Int) (z : List (Int × Int)) : (usedL z : Int) ≤ sz ↔ Fit sz z := by unfold usedL Fit; omega
theorem fit_one {sz : Int} (hs : 128 ≤ sz) (z : List (Int × Int)) (h : z.length ≤ 2) : Fit sz z := by have := bitsZ_le z; unfold Fit; omega
theorem small_join {sz : Int} (hs : 128 ≤ sz) {x y : List (Int × Int)} (hx : Small sz x) (hy : Small sz y) : Fit sz (x ++ y) := by
  have a := small_bits hx
  have b := small_bits hy
  have c := bits_app x y
  unfold Fit; omega
theorem half_fits {sz : Int} (hs : 128 ≤ sz) {z : List (Int × Int)} (h2 : 2 ≤ z.length) (hf : Fit sz z) : Fit sz (z.take (halfK z)) ∧ Fit sz (z.drop (halfK z)) := by
  have hk := halfK_le z h2
  have e : z.take (halfK z) ++ z.drop (halfK z) = z := List.take_append_drop _ _
  have a := bits_front (z.take (halfK z)) (z.drop (halfK z))
  have b := bits_back (z.take (halfK z)) (z.drop (halfK z))
  rw [e] at a b
  refine ⟨by unfold Fit at *; omega, ?_⟩
  by_cases hl : halfK z = z.length - 1
  · exact fit_one hs _ (by simp; omega)
  · have c : ¬ 2 * (encTo z (halfK z - 1 + 1)).length < bitsZ z := fun hh => absurd ((halfK_iff z (halfK z - 1) (by omega)).1 hh) (by omega)
    rw [show halfK z - 1 + 1 = halfK z from by omega] at c
    have d := bitsZ_take z (halfK z) (by omega)
    unfold Fit at *; omega
def Adj {α : Type} (R : α → α → Prop) : List α → Prop
  | [] => True
  | [_] => True
  | a :: b :: l => R a b ∧ Adj R (b :: l)
theorem adj_app {α : Type} {R : α → α → Prop} (x y : List α) : Adj R (x ++ y) ↔ Adj R x ∧ Adj R y ∧ ∀ a ∈ x.getLast?, ∀ b ∈ y.head?, R a b := by
  induction x with
  | nil => simp [Adj]
  | cons a x ih =>
    cases x with
    | nil =>
      cases y with
      | nil => simp [Adj]
      | cons b y => simp [Adj]; exact And.comm
    | cons c x =>
      simp only [List.cons_append] at ih ⊢
      simp only [Adj, ih, List.getLast?_cons_cons]
      exact and_assoc.symm
def Apart (sz : Int) (a b : List (Int × Int)) : Prop := ¬ (Small sz a ∧ Small sz b)
def lastOf (d : List (List (Int × Int))) : List (Int × Int) := d.getLast?.getD []
def arrS (sz : Int) (d : List (List (Int × Int))) (c : List (Int × Int)) : List (List (Int × Int)) :=
  if c.length = 0 then d else if 0 < d.length ∧ Small sz (lastOf d) ∧ Small sz c then d.dropLast ++ [lastOf d ++ c] else d ++ [c]
def arrL (sz : Int) (l : List (List (Int × Int))) : List (List (Int × Int)) := l.foldl (arrS sz) []
theorem arrL_snoc (sz : Int) (l : List (List (Int × Int))) (c : List (Int × Int)) : arrL sz (l ++ [c]) = arrS sz (arrL sz l) c := by unfold arrL; rw [List.foldl_append]; rfl
theorem last_split {d : List (List (Int × Int))} (h : 0 < d.length) : d = d.dropLast ++ [lastOf d] := by
  rcases List.eq_nil_or_concat d with rfl | ⟨i, q, rfl⟩
  · simp at h
  · simp [lastOf]
theorem snoc_ind {α : Type} {P : List α → Prop} (h0 : P []) (h : ∀ l a, P l → P (l ++ [a])) : ∀ l, P l := by
  intro l
  have : ∀ n (l : List α), l.length = n → P l := by
    intro n
    induction n with
    | zero => intro l hl; rw [List.eq_nil_of_length_eq_zero hl]; exact h0
    | succ n ih =>
      intro l hl
      rcases List.eq_nil_or_concat l with rfl | ⟨i, q, rfl⟩
      · exact h0
      · rw [List.concat_eq_append]; exact h i q (ih i (by simp at hl; exact hl))
  exact this _ l rfl
theorem arr_flat (sz : Int) (l : List (List (Int × Int))) : (arrL sz l).flatten = l.flatten := by
  refine snoc_ind (P := fun l => (arrL sz l).flatten = l.flatten) rfl ?_ l
  intro l c ih
  rw [arrL_snoc, List.flatten_append, ← ih]
  unfold arrS
  split
  · rename_i h; rw [List.eq_nil_of_length_eq_zero h]; simp
  · split
    · rename_i h
      conv => rhs; rw [last_split h.1]
      simp
    · simp
theorem arr_good {sz : Int} (hs : 128 ≤ sz) (l : List (List (Int × Int))) (hl : ∀ z ∈ l, Fit sz z) : (∀ z ∈ arrL sz l, z ≠ [] ∧ Fit sz z) ∧ Adj (Apart sz) (arrL sz l) := by
  revert hl
  refine snoc_ind (P := fun l => (∀ z ∈ l, Fit sz z) → (∀ z ∈ arrL sz l, z ≠ [] ∧ Fit sz z) ∧ Adj (Apart sz) (arrL sz l)) (fun _ => ⟨by simp [arrL], by simp [arrL, Adj]⟩) ?_ l
  intro l c ih hl
  obtain ⟨h1, h2⟩ := ih (fun z hz => hl z (by simp [hz]))
  have hc := hl c (by simp)
  rw [arrL_snoc]
  unfold arrS
  split
  · exact ⟨h1, h2⟩
  · rename_i hc0
    have hcn : c ≠ [] := by intro e; rw [e] at hc0; simp at hc0
    split
    · rename_i h
      obtain ⟨hd, hq, hsc⟩ := h
      have e := last_split hd
      generalize lastOf (arrL sz l) = q at *
      generalize (arrL sz l).dropLast = d at *
      rw [e] at h1 h2
      refine ⟨?_, ?_⟩
      · intro z hz
        rcases List.mem_append.1 hz with h | h
        · exact h1 z (by simp [h])
        · simp at h; subst h
          exact ⟨by simp [hcn], small_join hs hq hsc⟩
      · rw [adj_app] at h2 ⊢
        refine ⟨h2.1, trivial, ?_⟩
        intro a ha b hb
        simp at hb
        subst hb
        have := h2.2.2 a ha q (by simp)
        exact fun hh => this ⟨hh.1, hq⟩
    · rename_i h
      refine ⟨?_, ?_⟩
      · intro z hz
        rcases List.mem_append.1 hz with h | h
        · exact h1 z h
        · simp at h; subst h; exact ⟨hcn, hc⟩
      · rw [adj_app]
        refine ⟨h2, trivial, ?_⟩
        intro a ha b hb
        simp at hb
        subst hb
        intro hh
        refine h ⟨?_, ?_, hh.2⟩
        · cases hd : arrL sz l with
          | nil => rw [hd] at ha; simp at ha
          | cons x y => simp
        · unfold lastOf; rw [Option.mem_def.1 ha]; exact hh.1
theorem arr_head (sz : Int) (h : List (Int × Int)) (hn : h ≠ []) (l : List (List (Int × Int))) : ∃ h' rest, arrL sz (h :: l) = h' :: rest ∧ (h' = h ∨ Small sz h) := by
  refine snoc_ind (P := fun l => ∃ h' rest, arrL sz (h :: l) = h' :: rest ∧ (h' = h ∨ Small sz h)) ?_ ?_ l
  · refine ⟨h, [], ?_, .inl rfl⟩
    have : h.length ≠ 0 := by cases h with | nil => exact absurd rfl hn | cons a b => simp
    simp [arrL, arrS, this]
  · rintro l c ⟨h', rest, e, hh⟩
    rw [show h :: (l ++ [c]) = (h :: l) ++ [c] from rfl, arrL_snoc, e]
    unfold arrS
    split
    · exact ⟨h', rest, rfl, hh⟩
    · split
      · rename_i hx
        cases rest with
        | nil =>
          refine ⟨h' ++ c, [], by simp [lastOf], .inr ?_⟩
          rcases hh with rfl | hh
          · have := hx.2.1; simpa [lastOf] using this
          · exact hh
        | cons r rs => exact ⟨h', _, by rw [List.dropLast_cons_cons]; rfl, hh⟩
      · exact ⟨h', rest ++ [c], rfl, hh⟩
theorem arr_last (sz : Int) (r : List (Int × Int)) (hn : r ≠ []) (l : List (List (Int × Int))) : ∃ i q, arrL sz (l ++ [r]) = i ++ [q] ∧ (q = r ∨ Small sz r) := by
  have hr : r.length ≠ 0 := by cases r with | nil => exact absurd rfl hn | cons a b => simp
  rw [arrL_snoc]
  unfold arrS
  rw [if_neg hr]
  split
  · rename_i h; exact ⟨_, _, rfl, .inr h.2.2⟩
  · exact ⟨_, _, rfl, .inl rfl⟩
def Good (sz : Int) (l : List (List (Int × Int))) : Prop := (∀ z ∈ l, z ≠ [] ∧ Fit sz z) ∧ Adj (Apart sz) l
def nearL (A P C : List (List (Int × Int))) : List (List (Int × Int)) := A.drop (A.length - 1) ++ P ++ C.take 1
def replL (sz : Int) (A P C : List (List (Int × Int))) : List (List (Int × Int)) := A.take (A.length - 1) ++ arrL sz (nearL A P C) ++ C.drop 1
theorem good_left {sz : Int} {x y : List (List (Int × Int))} (h : Good sz (x ++ y)) : Good sz x := ⟨fun z hz => h.1 z (by simp [hz]), ((adj_app x y).1 h.2).1⟩
theorem good_right {sz : Int} {x y : List (List (Int × Int))} (h : Good sz (x ++ y)) : Good sz y := ⟨fun z hz => h.1 z (by simp [hz]), ((adj_app x y).1 h.2).2.1⟩
theorem repl_flat (sz : Int) (A P C : List (List (Int × Int))) : (replL sz A P C).flatten = A.flatten ++ P.flatten ++ C.flatten := by
  unfold replL nearL
  rw [List.flatten_append, List.flatten_append, arr_flat, List.flatten_append, List.flatten_append]
  have e1 : (A.take (A.length - 1)).flatten ++ (A.drop (A.length - 1)).flatten = A.flatten := by rw [← List.flatten_append, List.take_append_drop]
  have e2 : (C.take 1).flatten ++ (C.drop 1).flatten = C.flatten := by rw [← List.flatten_append, List.take_append_drop]
  rw [← e1, ← e2]
  simp only [List.append_assoc]
theorem repl_good {sz : Int} (hs : 128 ≤ sz) {A P C : List (List (Int × Int))} (hA : Good sz A) (hC : Good sz C) (hP : ∀ z ∈ P, Fit sz z) : Good sz (replL sz A P C) := by
  have hnear : ∀ z ∈ nearL A P C, Fit sz z := by
    intro z hz
    unfold nearL at hz
    rcases List.mem_append.1 hz with h | h
    · rcases List.mem_append.1 h with h | h
      · exact (hA.1 z (List.mem_of_mem_drop h)).2
      · exact hP z h
    · exact (hC.1 z (List.mem_of_mem_take h)).2
  obtain ⟨g1, g2⟩ := arr_good hs _ hnear
  have hA' : Good sz (A.take (A.length - 1)) := good_left (y := A.drop (A.length - 1)) (by rw [List.take_append_drop]; exact hA)
  have hC' : Good sz (C.drop 1) := good_right (x := C.take 1) (by rw [List.take_append_drop]; exact hC)
  refine ⟨?_, ?_⟩
  · intro z hz
    unfold replL at hz
    rcases List.mem_append.1 hz with h | h
    · rcases List.mem_append.1 h with h | h
      · exact hA'.1 z h
      · exact g1 z h
    · exact hC'.1 z h
  · unfold replL
    rw [List.append_assoc, adj_app]
    have hlink1 : ∀ a ∈ (A.take (A.length - 1)).getLast?, ∀ b ∈ (arrL sz (nearL A P C)).head?, Apart sz a b := by
      rcases List.eq_nil_or_concat A with rfl | ⟨A0, h, rfl⟩
      · simp
      · rw [List.concat_eq_append] at *
        intro a ha b hb
        have hh : h ≠ [] := (hA.1 h (by simp)).1
        have e1 : (A0 ++ [h]).take ((A0 ++ [h]).length - 1) = A0 := by simp
        have e2 : nearL (A0 ++ [h]) P C = h :: (P ++ C.take 1) := by unfold nearL; simp
        have hl := ((adj_app A0 [h]).1 hA.2).2.2
        rw [e1] at ha
        rw [e2] at hb
        obtain ⟨h', rest, e, hx⟩ := arr_head sz h hh (P ++ C.take 1)
        rw [e] at hb
        simp at hb
        subst hb
        have := hl a ha h (by simp)
        rcases hx with rfl | hx
        · exact this
        · exact fun hc => this ⟨hc.1, hx⟩
    have hlink2 : ∀ a ∈ (arrL sz (nearL A P C)).getLast?, ∀ b ∈ (C.drop 1).head?, Apart sz a b := by
      cases C with
      | nil => simp
      | cons r C0 =>
        intro a ha b hb
        have hh : r ≠ [] := (hC.1 r (by simp)).1
        have e2 : nearL A P (r :: C0) = (A.drop (A.length - 1) ++ P) ++ [r] := by unfold nearL; simp
        have hl := ((adj_app [r] C0).1 hC.2).2.2
        rw [e2] at ha
        obtain ⟨i, q, e, hx⟩ := arr_last sz r hh (A.drop (A.length - 1) ++ P)
        rw [e] at ha
        simp at ha hb
        subst ha
        have := hl r (by simp) b (by simpa using hb)
        rcases hx with rfl | hx
        · exact this
        · exact fun hc => this ⟨hx, hc.2⟩
    refine ⟨hA'.2, ?_, ?_⟩
    · rw [adj_app]; exact ⟨g2, hC'.2, hlink2⟩
    · intro a ha b hb
      cases hM : arrL sz (nearL A P C) with
      | cons m M =>
        rw [hM] at hb hlink1
        exact hlink1 a ha b (by simpa using hb)
      | nil =>
        exfalso
        rcases List.eq_nil_or_concat A with rfl | ⟨A0, h, rfl⟩
        · simp at ha
        · rw [List.concat_eq_append] at *
          have hh : h ≠ [] := (hA.1 h (by simp)).1
          have e2 : nearL (A0 ++ [h]) P C = h :: (P ++ C.take 1) := by unfold nearL; simp
          rw [e2] at hM
          obtain ⟨h', rest, e, hx⟩ := arr_head sz h hh (P ++ C.take 1)
          rw [e] at hM
          cases hM
end Go.Proofs.YtmifpfojhlmbkaaGreat
