/-
  Plain facts of layer 6: where a time's bucket begins and ends; samples in groups of the same bucket, one behind the other.
-/
import Derived.Test.YtlogkhifgkkjeaaDMath
namespace Go.Proofs.Ytlogkhifgkkjeaa
set_option linter.unusedVariables false
set_option linter.unusedSimpArgs false

/-! Buckets' times. -/
def rightB (size align : Int) : Prop := (1 ≤ size ∧ size ≤ 1099511627776) ∧ 0 ≤ align ∧ align < size
instance (size align : Int) : Decidable (rightB size align) := inferInstanceAs (Decidable (_ ∧ _))
def startB (t size align : Int) : Int := if ¬ rightB size align ∨ t < align ∨ 1099511627776 < t then 0 else align + (t - align) / size * size
def endB (b size align : Int) : Int := if ¬ rightB size align ∨ b < 0 ∨ 1099511627776 < b then 0 else if b < align then align else startB b size align + size
theorem startB_of {t size align : Int} (h : rightB size align) (h0 : align ≤ t) (h1 : t ≤ 1099511627776) : startB t size align = align + (t - align) / size * size := by
  unfold startB
  rw [if_neg]
  rintro (h2 | h2 | h2)
  · exact h2 h
  · omega
  · omega
theorem startB_low {t size align : Int} (h : t < align) : startB t size align = 0 := by unfold startB; rw [if_pos (.inr (.inl h))]
/-- Of a number the part that is whole sizes. -/
theorem whole_le (x size : Int) (hs : 1 ≤ size) : x / size * size ≤ x ∧ x < x / size * size + size := by
  have h1 := Int.emod_nonneg x (show size ≠ 0 by omega)
  have h2 := Int.emod_lt_of_pos x (show 0 < size by omega)
  have h3 := Int.mul_ediv_add_emod x size
  rw [Int.mul_comm] at h3
  omega
theorem div_nonneg' {x size : Int} (hx : 0 ≤ x) (hs : 1 ≤ size) : 0 ≤ x / size := Int.ediv_nonneg hx (by omega)
theorem mul_nonneg' {x size : Int} (hx : 0 ≤ x) (hs : 1 ≤ size) : 0 ≤ x / size * size := Int.mul_nonneg (div_nonneg' hx hs) (by omega)
theorem whole_of {k r size : Int} (h0 : 0 ≤ r) (h1 : r < size) : (k * size + r) / size = k := by
  rw [Int.add_comm, Int.add_mul_ediv_right _ _ (by omega), Int.ediv_eq_zero_of_lt h0 h1, Int.zero_add]
/-- Where a time's bucket begins: at 0, ahead of the alignment; or whole sizes behind that. -/
theorem startB_is {t size align : Int} (h : rightB size align) (h0 : 0 ≤ t) (h1 : t ≤ 1099511627776) : (t < align ∧ startB t size align = 0) ∨ (align ≤ t ∧ ∃ k, 0 ≤ k ∧ startB t size align = align + k * size ∧ align + k * size ≤ t ∧ t < align + k * size + size) := by
  by_cases h2 : t < align
  · exact .inl ⟨h2, startB_low h2⟩
  · have h3 := whole_le (t - align) size h.1.1
    exact .inr ⟨by omega, (t - align) / size, div_nonneg' (by omega) h.1.1, startB_of h (by omega) h1, by omega, by omega⟩
theorem startB_eq {t size align k : Int} (h : rightB size align) (h1 : t ≤ 1099511627776) (hk : 0 ≤ k) (h2 : align + k * size ≤ t) (h3 : t < align + k * size + size) : startB t size align = align + k * size := by
  have h4 : 0 ≤ k * size := Int.mul_nonneg hk (by have := h.1.1; omega)
  rw [startB_of h (by omega) h1, show t - align = k * size + (t - align - k * size) from by omega, whole_of (by omega) (by omega)]
theorem startB_range {t size align : Int} (h : rightB size align) (h0 : 0 ≤ t) (h1 : t ≤ 1099511627776) : 0 ≤ startB t size align ∧ startB t size align ≤ t := by
  have ha := h.2.1
  rcases startB_is h h0 h1 with ⟨_, e⟩ | ⟨_, k, hk, e, h2, _⟩
  · omega
  · have h4 : 0 ≤ k * size := Int.mul_nonneg hk (by have := h.1.1; omega)
    omega
/-- A bucket's beginning is in it. -/
theorem startB_self {t size align : Int} (h : rightB size align) (h0 : 0 ≤ t) (h1 : t ≤ 1099511627776) : startB (startB t size align) size align = startB t size align := by
  have hs := h.1.1
  have ha := h.2.1
  rcases startB_is h h0 h1 with ⟨h2, e⟩ | ⟨_, k, hk, e, h2, _⟩
  · rw [e]
    by_cases h3 : align = 0
    · omega
    · exact startB_low (by omega)
  · rw [e]
    exact startB_eq h (by omega) hk (by omega) (by omega)
theorem endB_of {b size align : Int} (h : rightB size align) (h0 : 0 ≤ b) (h1 : b ≤ 1099511627776) : endB b size align = if b < align then align else startB b size align + size := by
  unfold endB
  rw [if_neg]
  rintro (h2 | h2 | h2)
  · exact h2 h
  · omega
  · omega
/-- Where a time's bucket ends: behind it. -/
theorem endB_is {t size align : Int} (h : rightB size align) (h0 : 0 ≤ t) (h1 : t ≤ 1099511627776) : endB (startB t size align) size align = endB t size align ∧ t < endB t size align ∧ endB t size align - startB t size align ≤ size ∧ startB t size align < endB t size align := by
  have hs := h.1.1
  have ha := h.2.1
  have hl := h.2.2
  have hr := startB_range h h0 h1
  have hself := startB_self h h0 h1
  rw [endB_of h h0 h1, endB_of h hr.1 (by omega)]
  rcases startB_is h h0 h1 with ⟨h2, e⟩ | ⟨h4, k, hk, e, h2, h3⟩
  · rw [if_pos h2, e, if_pos (by omega)]; omega
  · have h4 : 0 ≤ k * size := Int.mul_nonneg hk (by omega)
    rw [if_neg (by omega), if_neg (by omega), hself]; omega
/-- Two times of one bucket. -/
theorem same_bucket {t u size align : Int} (h : rightB size align) (ht0 : 0 ≤ t) (ht1 : t ≤ 1099511627776) (hu0 : 0 ≤ u) (hu1 : u ≤ 1099511627776) : startB u size align = startB t size align ↔ startB t size align ≤ u ∧ u < endB t size align := by
  have hs := h.1.1
  have ha := h.2.1
  have hu := endB_is h hu0 hu1
  have hru := startB_range h hu0 hu1
  constructor
  · intro e
    refine ⟨by omega, ?_⟩
    have h5 := endB_is h ht0 ht1
    have : endB t size align = endB u size align := by rw [← h5.1, ← hu.1, e]
    omega
  · rintro ⟨h1, h2⟩
    rw [endB_of h ht0 ht1] at h2
    rcases startB_is h ht0 ht1 with ⟨h3, e⟩ | ⟨h3, k, hk, e, h4, h5⟩
    · rw [if_pos h3] at h2
      rw [e, startB_low h2]
    · rw [if_neg (by omega), e] at h2
      rw [e] at h1 ⊢
      exact startB_eq h hu1 hk h1 h2
theorem startB_mono {t u size align : Int} (h : rightB size align) (h0 : 0 ≤ t) (htu : t ≤ u) (h1 : u ≤ 1099511627776) : startB t size align ≤ startB u size align := by
  have hs := h.1.1
  have ha := h.2.1
  rcases startB_is h h0 (by omega) with ⟨_, e⟩ | ⟨h3, k, hk, e, h4, h5⟩
  · have := (startB_range h (show 0 ≤ u by omega) h1).1; omega
  · rcases startB_is h (show 0 ≤ u by omega) h1 with ⟨h6, _⟩ | ⟨_, m, hm, e2, h7, h8⟩
    · omega
    · rw [e, e2]
      have : k ≤ m := by
        apply Int.le_of_lt_add_one
        have h9 : k * size < (m + 1) * size := by rw [Int.add_mul, Int.one_mul]; omega
        exact Int.lt_of_mul_lt_mul_right h9 (by omega)
      have := Int.mul_le_mul_of_nonneg_right this (show 0 ≤ size by omega)
      omega
/-- Where one ends the next one begins. -/
theorem endB_next {t size align : Int} (h : rightB size align) (h0 : 0 ≤ t) (h1 : t ≤ 1099511627776) (he : endB t size align ≤ 1099511627776) : startB (endB t size align) size align = endB t size align := by
  have hs := h.1.1
  have ha := h.2.1
  rw [endB_of h h0 h1] at he ⊢
  rcases startB_is h h0 h1 with ⟨h3, e⟩ | ⟨h3, k, hk, e, h4, h5⟩
  · rw [if_pos h3] at he ⊢
    have := startB_eq (t := align) (k := 0) h he (by omega) (by omega) (by omega)
    omega
  · rw [if_neg (by omega), e] at he ⊢
    have := startB_eq (t := align + k * size + size) (k := k + 1) h he (by omega) (by rw [Int.add_mul, Int.one_mul]; omega) (by rw [Int.add_mul, Int.one_mul]; omega)
    rw [this, Int.add_mul, Int.one_mul]; omega
theorem endB_ahead {t size align : Int} (h : rightB size align) (h0 : 0 ≤ t) (h1 : t ≤ 1099511627776) (hb : startB t size align ≠ 0) : endB (startB t size align - 1) size align = startB t size align := by
  have hs := h.1.1
  have ha := h.2.1
  have hl := h.2.2
  rcases startB_is h h0 h1 with ⟨h3, e⟩ | ⟨h3, k, hk, e, h4, h5⟩
  · exact absurd e hb
  · have h6 : 0 ≤ k * size := Int.mul_nonneg hk (by omega)
    rw [e] at hb ⊢
    rw [endB_of h (by omega) (by omega)]
    by_cases hk0 : k = 0
    · subst hk0
      rw [if_pos (by omega)]; omega
    · have h7 : (k - 1) * size = k * size - size := by rw [Int.sub_mul, Int.one_mul]
      have h8 : 0 ≤ (k - 1) * size := Int.mul_nonneg (by omega) (by omega)
      rw [if_neg (by omega), startB_eq (k := k - 1) h (by omega) (by omega) (by omega) (by omega)]
      omega

/-! Groups: samples whose buckets are the same, one behind the other. -/
def addG (f : Int → Int) (gs : List (Int × List (Int × Int))) (x : Int × Int) : List (Int × List (Int × Int)) :=
  match gs.getLast? with
  | some g => if g.1 = f x.1 then gs.dropLast ++ [(g.1, g.2 ++ [x])] else gs ++ [(f x.1, [x])]
  | none => [(f x.1, [x])]
def grp (f : Int → Int) (l : List (Int × Int)) : List (Int × List (Int × Int)) := l.foldl (addG f) []
theorem grp_snoc (f : Int → Int) (l : List (Int × Int)) (x : Int × Int) : grp f (l ++ [x]) = addG f (grp f l) x := by unfold grp; rw [List.foldl_append]; rfl
theorem grp_nil (f : Int → Int) : grp f [] = [] := rfl
theorem snoc_cases {P : List (Int × Int) → Prop} (h0 : P []) (h1 : ∀ l x, P l → P (l ++ [x])) (l : List (Int × Int)) : P l := by
  have : ∀ n (l : List (Int × Int)), l.length = n → P l := by
    intro n
    induction n with
    | zero => intro l hl; rw [List.eq_nil_of_length_eq_zero hl]; exact h0
    | succ n ih =>
      intro l hl
      have hne : l ≠ [] := by intro e; subst e; simp at hl
      rw [← List.dropLast_concat_getLast hne]
      exact h1 _ _ (ih _ (by simp; omega))
  exact this _ l rfl
theorem addG_new {f : Int → Int} {gs : List (Int × List (Int × Int))} {x : Int × Int} (h : ∀ g ∈ gs.getLast?, g.1 ≠ f x.1) : addG f gs x = gs ++ [(f x.1, [x])] := by
  unfold addG
  cases hg : gs.getLast? with
  | none => rw [List.getLast?_eq_none_iff.1 hg]; rfl
  | some g => simp only; rw [if_neg (h g hg)]
theorem addG_old {f : Int → Int} {ds : List (Int × List (Int × Int))} {g : Int × List (Int × Int)} {x : Int × Int} (h : g.1 = f x.1) : addG f (ds ++ [g]) x = ds ++ [(g.1, g.2 ++ [x])] := by
  unfold addG
  simp [h]
theorem addG_cases (f : Int → Int) (gs : List (Int × List (Int × Int))) (x : Int × Int) : ((∀ g ∈ gs.getLast?, g.1 ≠ f x.1) ∧ addG f gs x = gs ++ [(f x.1, [x])]) ∨ ∃ ds g, gs = ds ++ [g] ∧ g.1 = f x.1 ∧ addG f gs x = ds ++ [(g.1, g.2 ++ [x])] := by
  by_cases hne : gs = []
  · subst hne; exact .inl ⟨by simp, rfl⟩
  · have e := List.dropLast_concat_getLast hne
    by_cases h : (gs.getLast hne).1 = f x.1
    · refine .inr ⟨gs.dropLast, gs.getLast hne, e.symm, h, ?_⟩
      conv => lhs; rw [← e]
      exact addG_old h
    · refine .inl ⟨fun g hg => ?_, addG_new fun g hg => ?_⟩
      all_goals
        rw [List.getLast?_eq_some_getLast hne] at hg
        simp at hg
        subst hg
        exact h
theorem grp_flat (f : Int → Int) (l : List (Int × Int)) : ((grp f l).map (·.2)).flatten = l := by
  refine snoc_cases (P := fun l => ((grp f l).map (·.2)).flatten = l) rfl ?_ l
  intro l x ih
  rw [grp_snoc]
  rcases addG_cases f (grp f l) x with ⟨_, e⟩ | ⟨ds, g, e1, _, e⟩
  · rw [e]; simp [ih]
  · rw [e1] at ih
    rw [e]
    conv => rhs; rw [← ih]
    simp
theorem grp_mem (f : Int → Int) (l : List (Int × Int)) : ∀ g ∈ grp f l, g.2 ≠ [] ∧ ∀ u ∈ g.2, f u.1 = g.1 := by
  refine snoc_cases (P := fun l => ∀ g ∈ grp f l, g.2 ≠ [] ∧ ∀ u ∈ g.2, f u.1 = g.1) (by simp [grp]) ?_ l
  intro l x ih g hg
  rw [grp_snoc] at hg
  rcases addG_cases f (grp f l) x with ⟨_, e⟩ | ⟨ds, g0, e1, h1, e⟩
  · rw [e] at hg
    rcases List.mem_append.1 hg with hg | hg
    · exact ih g hg
    · have e2 : g = (f x.1, [x]) := by simpa using hg
      subst e2
      exact ⟨by simp, by simp⟩
  · rw [e] at hg
    rcases List.mem_append.1 hg with hg | hg
    · exact ih g (by rw [e1]; simp [hg])
    · have e2 : g = (g0.1, g0.2 ++ [x]) := by simpa using hg
      subst e2
      refine ⟨by simp, ?_⟩
      intro u hu
      rcases List.mem_append.1 hu with hu | hu
      · exact (ih g0 (by rw [e1]; simp)).2 u hu
      · have e3 : u = x := by simpa using hu
        subst e3; exact h1.symm
/-- The last group has the last sample's bucket. -/
theorem grp_last (f : Int → Int) (l : List (Int × Int)) (x : Int × Int) : ∃ ds g, grp f (l ++ [x]) = ds ++ [(f x.1, g ++ [x])] := by
  rw [grp_snoc]
  rcases addG_cases f (grp f l) x with ⟨_, e⟩ | ⟨ds, g0, e1, h1, e⟩
  · exact ⟨grp f l, [], by rw [e]; rfl⟩
  · exact ⟨ds, g0.2, by rw [e, h1]⟩
theorem grp_next {f : Int → Int} {l : List (Int × Int)} {x y : Int × Int} (h : f y.1 ≠ f x.1) : grp f (l ++ [x] ++ [y]) = grp f (l ++ [x]) ++ [(f y.1, [y])] := by
  rw [grp_snoc]
  obtain ⟨ds, g, e⟩ := grp_last f l x
  refine addG_new ?_
  rw [e]
  intro g' hg'
  simp at hg'
  subst hg'
  exact fun hh => h hh.symm
/-- Where f rises with the times, and these do, the groups' buckets rise. -/
theorem grp_rise {f : Int → Int} (l : List (Int × Int)) (hf : ∀ u ∈ l, ∀ v ∈ l, u.1 ≤ v.1 → f u.1 ≤ f v.1) (hl : l.Pairwise (fun u v => u.1 < v.1)) : (grp f l).Pairwise (fun g h => g.1 < h.1) := by
  refine snoc_cases (P := fun l => (∀ u ∈ l, ∀ v ∈ l, u.1 ≤ v.1 → f u.1 ≤ f v.1) → l.Pairwise (fun u v => u.1 < v.1) → (grp f l).Pairwise (fun g h => g.1 < h.1)) (by intros; simp [grp]) ?_ l hf hl
  intro l x ih hf hl
  rw [List.pairwise_append] at hl
  have ih' := ih (fun u hu v hv => hf u (by simp [hu]) v (by simp [hv])) hl.1
  have hle : ∀ g ∈ grp f l, g.1 ≤ f x.1 := by
    intro g hg
    obtain ⟨h1, h2⟩ := grp_mem f l g hg
    obtain ⟨u, hu⟩ := List.exists_mem_of_ne_nil _ h1
    have hul : u ∈ l := by
      rw [← grp_flat f l]
      exact List.mem_flatten.2 ⟨g.2, List.mem_map.2 ⟨g, hg, rfl⟩, hu⟩
    have := hf u (by simp [hul]) x (by simp) (Int.le_of_lt (hl.2.2 u hul x (by simp)))
    rw [h2 u hu] at this; exact this
  rw [grp_snoc]
  rcases addG_cases f (grp f l) x with ⟨hn, e⟩ | ⟨ds, g0, e1, h1, e⟩
  · rw [e, List.pairwise_append]
    refine ⟨ih', by simp, ?_⟩
    intro g hg h hh
    have e2 : h = (f x.1, [x]) := by simpa using hh
    subst e2
    show g.1 < f x.1
    have hlast : ∀ g1 ∈ (grp f l).getLast?, g1.1 < f x.1 := fun g1 hg1 => by
      have hm : g1 ∈ grp f l := List.mem_of_getLast? hg1
      have := hle g1 hm
      have := hn g1 hg1
      omega
    have hne : grp f l ≠ [] := fun e => by rw [e] at hg; cases hg
    have e3 := List.dropLast_concat_getLast hne
    have h4 := hlast _ (List.getLast?_eq_some_getLast hne)
    rw [← e3] at hg ih'
    rcases List.mem_append.1 hg with hg | hg
    · have := (List.pairwise_append.1 ih').2.2 g hg ((grp f l).getLast hne) (by simp)
      omega
    · have e4 : g = (grp f l).getLast hne := by simpa using hg
      rw [e4]; exact h4
  · rw [e1, List.pairwise_append] at ih'
    rw [e, List.pairwise_append]
    refine ⟨ih'.1, by simp, ?_⟩
    intro g hg h hh
    have e2 : h = (g0.1, g0.2 ++ [x]) := by simpa using hh
    subst e2
    exact ih'.2.2 g hg g0 (by simp)
/-- A group is the samples of its bucket. -/
theorem grp_filter {f : Int → Int} {gs : List (Int × List (Int × Int))} (hm : ∀ g ∈ gs, ∀ u ∈ g.2, f u.1 = g.1) (hp : gs.Pairwise (fun g h => g.1 < h.1)) : ∀ g ∈ gs, (gs.map (·.2)).flatten.filter (fun u => decide (f u.1 = g.1)) = g.2 := by
  induction gs with
  | nil => intro g hg; cases hg
  | cons a l ih =>
    intro g hg
    rw [List.pairwise_cons] at hp
    simp only [List.map_cons, List.flatten_cons, List.filter_append]
    have ih' := ih (fun g hg => hm g (by simp [hg])) hp.2
    rcases List.mem_cons.1 hg with e | hg
    · subst e
      have h1 : g.2.filter (fun u => decide (f u.1 = g.1)) = g.2 := List.filter_eq_self.2 fun u hu => by simpa using hm g (by simp) u hu
      have h2 : ((l.map (·.2)).flatten).filter (fun u => decide (f u.1 = g.1)) = [] := List.filter_eq_nil_iff.2 fun u hu => by
        obtain ⟨z, hz, huz⟩ := List.mem_flatten.1 hu
        obtain ⟨h, hh, rfl⟩ := List.mem_map.1 hz
        have h3 := hm h (by simp [hh]) u huz
        have h4 := hp.1 h hh
        simp; omega
      rw [h1, h2, List.append_nil]
    · have h1 : a.2.filter (fun u => decide (f u.1 = g.1)) = [] := List.filter_eq_nil_iff.2 fun u hu => by
        have h3 := hm a (by simp) u hu
        have h4 := hp.1 g hg
        simp; omega
      rw [h1, List.nil_append]; exact ih' g hg

end Go.Proofs.Ytlogkhifgkkjeaa
