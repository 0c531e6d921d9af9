/-
  Plain facts of layer 6: what each bucket's samples make.
-/
import Derived.Test.YtojnalpmibpchaaDoorAFold
namespace Go.Proofs.YtojnalpmibpchaaDoor
set_option linter.unusedVariables false
set_option linter.unusedSimpArgs false

def valsOf (l : List (Int × Int)) : List Int := l.map (·.2)
theorem valsOf_nil (l : List (Int × Int)) : valsOf l = [] ↔ l = [] := by simp [valsOf]
theorem valsOf_app (l k : List (Int × Int)) : valsOf (l ++ k) = valsOf l ++ valsOf k := by simp [valsOf]
theorem valsOf_len (l : List (Int × Int)) : (valsOf l).length = l.length := by simp [valsOf]
def groups (size align : Int) (l : List (Int × Int)) : List (Int × List (Int × Int)) := grp (fun t => startB t size align) l
def buckL (k size align : Int) (l : List (Int × Int)) : List (Int × Int) := (groups size align l).map fun g => (g.1, valK k (valsOf g.2))
/-- All times can be. -/
def okT (l : List (Int × Int)) : Prop := ∀ u ∈ l, 0 ≤ u.1 ∧ u.1 ≤ 1099511627776
instance (l : List (Int × Int)) : Decidable (okT l) := inferInstanceAs (Decidable (∀ u ∈ l, _))
def buckA (k size align : Int) (l : List (Int × Int)) : List (Int × Int) := if (1 ≤ k ∧ k ≤ 7) ∧ rightB size align ∧ okT l then buckL k size align l else []
theorem buckA_ok {k size align : Int} {l : List (Int × Int)} (hk : 1 ≤ k ∧ k ≤ 7) (hr : rightB size align) (ht : okT l) : buckA k size align l = buckL k size align l := by unfold buckA; rw [if_pos ⟨hk, hr, ht⟩]
theorem buck_len (k size align : Int) (l : List (Int × Int)) : (buckL k size align l).length = (groups size align l).length := by simp [buckL]
theorem addG_len (f : Int → Int) (gs : List (Int × List (Int × Int))) (x : Int × Int) : (addG f gs x).length ≤ gs.length + 1 := by
  rcases addG_cases f gs x with ⟨_, e⟩ | ⟨ds, g, e1, _, e⟩
  · rw [e]; simp
  · rw [e, e1]; simp
theorem groups_few (size align : Int) (l : List (Int × Int)) : (groups size align l).length ≤ l.length := by
  refine snoc_cases (P := fun l => (groups size align l).length ≤ l.length) (by simp [groups, grp]) (fun l x ih => ?_) l
  unfold groups at *
  rw [grp_snoc, List.length_append, List.length_singleton]
  have := addG_len (fun t => startB t size align) (grp (fun t => startB t size align) l) x
  omega
theorem groups_mem {size align : Int} {l : List (Int × Int)} {g : Int × List (Int × Int)} (h : g ∈ groups size align l) : g.2 ≠ [] ∧ (∀ u ∈ g.2, u ∈ l ∧ startB u.1 size align = g.1) := by
  obtain ⟨h1, h2⟩ := grp_mem _ l g h
  refine ⟨h1, fun u hu => ⟨?_, h2 u hu⟩⟩
  rw [← grp_flat (fun t => startB t size align) l]
  exact List.mem_flatten.2 ⟨g.2, List.mem_map.2 ⟨g, h, rfl⟩, hu⟩
/-- A bucket's beginning is its own. -/
theorem groups_start {size align : Int} {l : List (Int × Int)} (hr : rightB size align) (ht : okT l) {g : Int × List (Int × Int)} (h : g ∈ groups size align l) : startB g.1 size align = g.1 ∧ 0 ≤ g.1 ∧ g.1 ≤ 1099511627776 := by
  obtain ⟨h1, h2⟩ := groups_mem h
  obtain ⟨u, hu⟩ := List.exists_mem_of_ne_nil _ h1
  obtain ⟨hul, hus⟩ := h2 u hu
  have htu := ht u hul
  rw [← hus]
  have := startB_range hr htu.1 htu.2
  exact ⟨startB_self hr htu.1 htu.2, this.1, by omega⟩
/-- A group is the samples from its bucket's beginning to its end. -/
theorem groups_in {size align : Int} {l : List (Int × Int)} (hr : rightB size align) (ht : okT l) (hl : l.Pairwise (fun u v => u.1 < v.1)) {g : Int × List (Int × Int)} (h : g ∈ groups size align l) :
    l.filter (fun u => decide (g.1 ≤ u.1) && decide (u.1 < endB g.1 size align)) = g.2 := by
  have hp := grp_rise (f := fun t => startB t size align) l (fun u hu v hv huv => startB_mono hr (ht u hu).1 huv (ht v hv).2) hl
  have hf := grp_filter (f := fun t => startB t size align) (gs := groups size align l) (fun g hg u hu => ((groups_mem hg).2 u hu).2) hp g h
  rw [show ((groups size align l).map (·.2)).flatten = l from grp_flat _ l] at hf
  rw [← hf]
  apply List.filter_congr
  intro u hu
  obtain ⟨h1, h2⟩ := groups_mem h
  obtain ⟨v, hv⟩ := List.exists_mem_of_ne_nil _ h1
  obtain ⟨hvl, hvs⟩ := h2 v hv
  have htv := ht v hvl
  have htu := ht u hu
  have hsb := same_bucket hr htv.1 htv.2 htu.1 htu.2
  have hend := (endB_is hr htv.1 htv.2).1
  rw [hvs] at hsb hend
  rw [← hend] at hsb
  by_cases hx : startB u.1 size align = g.1
  · obtain ⟨h3, h4⟩ := hsb.1 hx
    simp [h3, h4, hx]
  · have : ¬ (g.1 ≤ u.1 ∧ u.1 < endB g.1 size align) := fun hh => hx (hsb.2 hh)
    have h5 : (decide (g.1 ≤ u.1) && decide (u.1 < endB g.1 size align)) = false := by
      rw [Bool.and_eq_false_iff]
      by_cases h6 : g.1 ≤ u.1
      · exact .inr (decide_eq_false (fun h7 => this ⟨h6, h7⟩))
      · exact .inl (decide_eq_false h6)
    rw [h5]
    exact (decide_eq_false hx).symm
theorem groups_rise {size align : Int} {l : List (Int × Int)} (hr : rightB size align) (ht : okT l) (hl : l.Pairwise (fun u v => u.1 < v.1)) : (groups size align l).Pairwise (fun g h => g.1 < h.1) :=
  grp_rise (f := fun t => startB t size align) l (fun u hu v hv huv => startB_mono hr (ht u hu).1 huv (ht v hv).2) hl
/-- All groups have together as many samples as there are. -/
theorem groups_sum (size align : Int) (l : List (Int × Int)) : ((groups size align l).map fun g => g.2.length).sum = l.length := by
  have h := congrArg List.length (grp_flat (fun t => startB t size align) l)
  rw [List.length_flatten, List.map_map] at h
  exact h
theorem groups_vals (size align : Int) (l : List (Int × Int)) : ((groups size align l).map fun g => valsOf g.2).flatten = valsOf l := by
  conv => rhs; rw [← grp_flat (fun t => startB t size align) l]
  unfold valsOf groups
  rw [List.map_flatten, List.map_map]
  rfl
/-- The least of all buckets' least is the least of all; the greatest likewise. -/
theorem buck_min (size align : Int) (l : List (Int × Int)) : minL (valsOf (buckL 2 size align l)) = minL (valsOf l) := by
  have e : valsOf (buckL 2 size align l) = ((groups size align l).map fun g => valsOf g.2).map minL := by
    unfold valsOf buckL
    rw [List.map_map, List.map_map]
    apply List.map_congr_left
    intro g hg
    have hne : valsOf g.2 ≠ [] := fun e => (groups_mem hg).1 ((valsOf_nil _).1 e)
    show valK 2 (valsOf g.2) = _
    unfold valK
    rw [if_neg hne, if_neg (by omega), if_pos rfl]; rfl
  rw [e, minL_parts, groups_vals]
  intro v hv
  obtain ⟨g, hg, rfl⟩ := List.mem_map.1 hv
  exact fun e => (groups_mem hg).1 ((valsOf_nil _).1 e)
theorem buck_max (size align : Int) (l : List (Int × Int)) : maxL (valsOf (buckL 3 size align l)) = maxL (valsOf l) := by
  have e : valsOf (buckL 3 size align l) = ((groups size align l).map fun g => valsOf g.2).map maxL := by
    unfold valsOf buckL
    rw [List.map_map, List.map_map]
    apply List.map_congr_left
    intro g hg
    have hne : valsOf g.2 ≠ [] := fun e => (groups_mem hg).1 ((valsOf_nil _).1 e)
    show valK 3 (valsOf g.2) = _
    unfold valK
    rw [if_neg hne, if_neg (by omega), if_neg (by omega), if_pos rfl]; rfl
  rw [e, maxL_parts, groups_vals]
  intro v hv
  obtain ⟨g, hg, rfl⟩ := List.mem_map.1 hv
  exact fun e => (groups_mem hg).1 ((valsOf_nil _).1 e)
theorem buck_nil (k size align : Int) (l : List (Int × Int)) : buckL k size align l = [] ↔ l = [] := by
  constructor
  · intro h
    have h1 : groups size align l = [] := by simpa [buckL] using h
    have h2 := groups_sum size align l
    rw [h1] at h2
    exact List.eq_nil_of_length_eq_zero h2.symm
  · intro h; subst h; rfl

theorem buck_count (size align : Int) (l : List (Int × Int)) : (valsOf (buckL 4 size align l)).sum = (l.length : Int) := by
  have e : valsOf (buckL 4 size align l) = ((groups size align l).map fun g => g.2.length).map (fun n : Nat => (n : Int)) := by
    unfold valsOf buckL
    rw [List.map_map, List.map_map]
    apply List.map_congr_left
    intro g hg
    have hne : valsOf g.2 ≠ [] := fun e => (groups_mem hg).1 ((valsOf_nil _).1 e)
    show valK 4 (valsOf g.2) = _
    unfold valK
    rw [if_neg hne, if_neg (by omega), if_neg (by omega), if_neg (by omega), if_pos rfl, valsOf_len]; rfl
  have h : ∀ L : List Nat, (L.map (fun n : Nat => (n : Int))).sum = (L.sum : Int) := by
    intro L
    induction L with
    | nil => rfl
    | cons a L ih => simp only [List.map_cons, List.sum_cons, ih]; omega
  rw [e, h, groups_sum]
/-- Samples of one bucket behind others whose last one has another one. -/
theorem grp_block {f : Int → Int} {p : List (Int × Int)} {b : Int} (hp : ∀ g ∈ (grp f p).getLast?, g.1 ≠ b) (m : List (Int × Int)) : m ≠ [] → (∀ u ∈ m, f u.1 = b) → grp f (p ++ m) = grp f p ++ [(b, m)] := by
  refine snoc_cases (P := fun m => m ≠ [] → (∀ u ∈ m, f u.1 = b) → grp f (p ++ m) = grp f p ++ [(b, m)]) (fun h => absurd rfl h) (fun m x ih _ hm => ?_) m
  have hx := hm x (by simp)
  rw [← List.append_assoc, grp_snoc]
  by_cases hne : m = []
  · subst hne
    rw [List.append_nil, addG_new (by rw [hx]; exact hp), hx]; rfl
  · rw [ih hne (fun u hu => hm u (by simp [hu])), addG_old hx.symm]
theorem grp_end (f : Int → Int) (p : List (Int × Int)) (x : Int × Int) : ∀ g ∈ (grp f (p ++ [x])).getLast?, g.1 = f x.1 := by
  obtain ⟨ds, g, e⟩ := grp_last f p x
  rw [e]
  intro g' hg'
  simp at hg'
  subst hg'; rfl

end Go.Proofs.YtojnalpmibpchaaDoor
