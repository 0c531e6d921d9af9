/-
  Plain facts of layer 6: what numbers make by each kind.
-/
import Derived.Test.YtojnalpmibpchaaDoorPCap
import Derived.Test.YtojnalpmibpchaaDoorAMath
namespace Go.Proofs.YtojnalpmibpchaaDoor
set_option linter.unusedVariables false
set_option linter.unusedSimpArgs false

/-- The first number, and then one behind the other. -/
def fold1 (f : Int → Int → Int) : List Int → Int
  | [] => 0
  | v :: l => l.foldl f v
theorem fold1_one (f : Int → Int → Int) (v : Int) : fold1 f [v] = v := rfl
theorem fold1_snoc (f : Int → Int → Int) (l : List Int) (x : Int) (h : l ≠ []) : fold1 f (l ++ [x]) = f (fold1 f l) x := by
  cases l with
  | nil => exact absurd rfl h
  | cons v l => simp [fold1]
def sumC (l : List Int) : Int := fold1 capS l
def minL (l : List Int) : Int := fold1 min l
def maxL (l : List Int) : Int := fold1 max l
/-- What is between the least and the greatest. -/
def wideL (l : List Int) : Int := if maxL l - minL l ≤ 9223372036854775807 then maxL l - minL l else 9223372036854775807
def valK (k : Int) (l : List Int) : Int :=
  if l = [] then 0 else if k = 1 then sumC l else if k = 2 then minL l else if k = 3 then maxL l else if k = 4 then (l.length : Int) else if k = 5 then l.headD 0 else if k = 6 then l.getLastD 0 else if k = 7 then wideL l else 0
/-- Is there a number? -/
def isK (k : Int) (l : List Int) : Bool := decide (1 ≤ k ∧ k ≤ 7) && decide (l ≠ [])
theorem valK_nil (k : Int) : valK k [] = 0 := by unfold valK; rw [if_pos rfl]
theorem valK_no {k : Int} (l : List Int) (h : ¬ (1 ≤ k ∧ k ≤ 7)) : valK k l = 0 := by
  unfold valK
  split
  · rfl
  · rw [if_neg (by omega), if_neg (by omega), if_neg (by omega), if_neg (by omega), if_neg (by omega), if_neg (by omega), if_neg (by omega)]

theorem snoc_ints {P : List Int → Prop} (h1 : ∀ x, P [x]) (h2 : ∀ l x, l ≠ [] → P l → P (l ++ [x])) : ∀ l, l ≠ [] → P l := by
  have : ∀ n (l : List Int), l.length = n → l ≠ [] → P l := by
    intro n
    induction n with
    | zero => intro l hl hne; exact absurd (List.eq_nil_of_length_eq_zero hl) hne
    | succ n ih =>
      intro l hl hne
      rw [← List.dropLast_concat_getLast hne]
      by_cases h : l.dropLast = []
      · rw [h]; exact h1 _
      · exact h2 _ _ h (ih _ (by simp; omega) h)
  exact fun l => this _ l rfl
/-- The least number is one of them, and none is lesser. -/
theorem minL_is : ∀ l : List Int, l ≠ [] → minL l ∈ l ∧ ∀ x ∈ l, minL l ≤ x := by
  refine snoc_ints (fun x => ?_) (fun l x hne ih => ?_)
  · exact ⟨by simp [minL, fold1], by simp [minL, fold1]⟩
  · have e : minL (l ++ [x]) = min (minL l) x := fold1_snoc min l x hne
    rw [e]
    obtain ⟨h1, h2⟩ := ih
    refine ⟨?_, ?_⟩
    · by_cases h : minL l ≤ x
      · rw [show min (minL l) x = minL l from by omega]; simp [h1]
      · rw [show min (minL l) x = x from by omega]; simp
    · intro y hy
      rcases List.mem_append.1 hy with hy | hy
      · have := h2 y hy; omega
      · have e2 : y = x := by simpa using hy
        subst e2; omega
theorem maxL_is : ∀ l : List Int, l ≠ [] → maxL l ∈ l ∧ ∀ x ∈ l, x ≤ maxL l := by
  refine snoc_ints (fun x => ?_) (fun l x hne ih => ?_)
  · exact ⟨by simp [maxL, fold1], by simp [maxL, fold1]⟩
  · have e : maxL (l ++ [x]) = max (maxL l) x := fold1_snoc max l x hne
    rw [e]
    obtain ⟨h1, h2⟩ := ih
    refine ⟨?_, ?_⟩
    · by_cases h : x ≤ maxL l
      · rw [show max (maxL l) x = maxL l from by omega]; simp [h1]
      · rw [show max (maxL l) x = x from by omega]; simp
    · intro y hy
      rcases List.mem_append.1 hy with hy | hy
      · have := h2 y hy; omega
      · have e2 : y = x := by simpa using hy
        subst e2; omega
theorem minL_eq {l : List Int} {m : Int} (hm : m ∈ l) (h : ∀ x ∈ l, m ≤ x) : minL l = m := by
  have hne : l ≠ [] := fun e => by subst e; cases hm
  have h1 := minL_is l hne
  have h2 := h1.2 m hm
  have h3 := h _ h1.1
  omega
theorem maxL_eq {l : List Int} {m : Int} (hm : m ∈ l) (h : ∀ x ∈ l, x ≤ m) : maxL l = m := by
  have hne : l ≠ [] := fun e => by subst e; cases hm
  have h1 := maxL_is l hne
  have h2 := h1.2 m hm
  have h3 := h _ h1.1
  omega
theorem minL_mem_eq {l k : List Int} (h : ∀ x, x ∈ l ↔ x ∈ k) : minL l = minL k := by
  by_cases hne : l = []
  · subst hne
    have : k = [] := List.eq_nil_iff_forall_not_mem.2 fun x hx => by have := (h x).2 hx; cases this
    rw [this]
  · have h1 := minL_is l hne
    exact (minL_eq ((h _).1 h1.1) (fun x hx => h1.2 x ((h x).2 hx))).symm
theorem maxL_mem_eq {l k : List Int} (h : ∀ x, x ∈ l ↔ x ∈ k) : maxL l = maxL k := by
  by_cases hne : l = []
  · subst hne
    have : k = [] := List.eq_nil_iff_forall_not_mem.2 fun x hx => by have := (h x).2 hx; cases this
    rw [this]
  · have h1 := maxL_is l hne
    exact (maxL_eq ((h _).1 h1.1) (fun x hx => h1.2 x ((h x).2 hx))).symm
theorem minL_rev (l : List Int) : minL l.reverse = minL l := minL_mem_eq (by simp)
theorem maxL_rev (l : List Int) : maxL l.reverse = maxL l := maxL_mem_eq (by simp)
theorem wideL_rev (l : List Int) : wideL l.reverse = wideL l := by unfold wideL; rw [minL_rev, maxL_rev]
/-- The least of each part's least is the least of all. -/
theorem minL_parts {L : List (List Int)} (h : ∀ l ∈ L, l ≠ []) : minL (L.map minL) = minL L.flatten := by
  by_cases hL : L = []
  · subst hL; rfl
  · have hne : L.map minL ≠ [] := by simpa using hL
    have h1 := minL_is _ hne
    symm
    refine minL_eq ?_ ?_
    · obtain ⟨l, hl, e⟩ := List.mem_map.1 h1.1
      rw [← e]
      exact List.mem_flatten.2 ⟨l, hl, (minL_is l (h l hl)).1⟩
    · intro x hx
      obtain ⟨l, hl, hxl⟩ := List.mem_flatten.1 hx
      have h2 := h1.2 (minL l) (List.mem_map.2 ⟨l, hl, rfl⟩)
      have h3 := (minL_is l (h l hl)).2 x hxl
      omega
theorem maxL_parts {L : List (List Int)} (h : ∀ l ∈ L, l ≠ []) : maxL (L.map maxL) = maxL L.flatten := by
  by_cases hL : L = []
  · subst hL; rfl
  · have hne : L.map maxL ≠ [] := by simpa using hL
    have h1 := maxL_is _ hne
    symm
    refine maxL_eq ?_ ?_
    · obtain ⟨l, hl, e⟩ := List.mem_map.1 h1.1
      rw [← e]
      exact List.mem_flatten.2 ⟨l, hl, (maxL_is l (h l hl)).1⟩
    · intro x hx
      obtain ⟨l, hl, hxl⟩ := List.mem_flatten.1 hx
      have h2 := h1.2 (maxL l) (List.mem_map.2 ⟨l, hl, rfl⟩)
      have h3 := (maxL_is l (h l hl)).2 x hxl
      omega
/-- A sum that comes to no end is the numbers' sum. -/
theorem sumC_small (B : Int) (hB : 0 ≤ B) : ∀ l : List Int, l ≠ [] → (∀ x ∈ l, -B ≤ x ∧ x ≤ B) → (l.length : Int) * B ≤ 9223372036854775807 → sumC l = l.sum ∧ -((l.length : Int) * B) ≤ l.sum ∧ l.sum ≤ (l.length : Int) * B := by
  refine snoc_ints (P := fun l => (∀ x ∈ l, -B ≤ x ∧ x ≤ B) → (l.length : Int) * B ≤ 9223372036854775807 → sumC l = l.sum ∧ -((l.length : Int) * B) ≤ l.sum ∧ l.sum ≤ (l.length : Int) * B) (fun x h _ => ?_) (fun l x hne ih h hl => ?_)
  · have := h x (by simp)
    refine ⟨by simp [sumC, fold1], ?_, ?_⟩
    · simp; omega
    · simp; omega
  · have e : sumC (l ++ [x]) = capS (sumC l) x := fold1_snoc capS l x hne
    have hx := h x (by simp)
    have hlen : ((l ++ [x]).length : Int) * B = (l.length : Int) * B + B := by rw [List.length_append, List.length_singleton]; push_cast; rw [Int.add_mul, Int.one_mul]
    rw [hlen] at hl ⊢
    obtain ⟨h1, h2, h3⟩ := ih (fun y hy => h y (by simp [hy])) (by omega)
    rw [e, h1, List.sum_append, List.sum_singleton]
    refine ⟨?_, by omega, by omega⟩
    unfold capS
    rw [if_neg (by omega), if_neg (by omega)]
theorem sum_rev (l : List Int) : l.reverse.sum = l.sum := by
  induction l with
  | nil => rfl
  | cons a l ih =>
    rw [List.reverse_cons, List.sum_append, ih]
    simp only [List.sum_cons, List.sum_nil]; omega
/-- In any order the same: the least, the greatest, how many, what is between, and a sum that comes to no end. -/
theorem valK_rev {k : Int} (l : List Int) (h : k = 2 ∨ k = 3 ∨ k = 4 ∨ k = 7 ∨ (k = 1 ∧ (l.length : Int) ≤ 40 ∧ ∀ x ∈ l, -1125899906842624 ≤ x ∧ x ≤ 1125899906842624)) : valK k l.reverse = valK k l := by
  by_cases hne : l = []
  · subst hne; rfl
  · have hne2 : l.reverse ≠ [] := by simpa using hne
    unfold valK
    rw [if_neg hne, if_neg hne2]
    rcases h with rfl | rfl | rfl | rfl | ⟨rfl, hl, hs⟩
    · simp [minL_rev]
    · simp [maxL_rev]
    · simp
    · simp [wideL_rev]
    · rw [if_pos rfl, if_pos rfl]
      have h1 := sumC_small 1125899906842624 (by omega) l hne hs (by omega)
      have h2 := sumC_small 1125899906842624 (by omega) l.reverse hne2 (fun x hx => hs x (List.mem_reverse.1 hx)) (by rw [List.length_reverse]; omega)
      rw [h1.1, h2.1, sum_rev]
/-- What is told stays in 64 bits. -/
theorem sumC_in : ∀ l : List Int, l ≠ [] → (∀ x ∈ l, in64 x) → in64 (sumC l) := by
  refine snoc_ints (P := fun l => (∀ x ∈ l, in64 x) → in64 (sumC l)) (fun x h => h x (by simp)) (fun l x hne ih h => ?_)
  have e : sumC (l ++ [x]) = capS (sumC l) x := fold1_snoc capS l x hne
  rw [e]
  unfold capS in64
  split
  · omega
  · split <;> omega

end Go.Proofs.YtojnalpmibpchaaDoor
