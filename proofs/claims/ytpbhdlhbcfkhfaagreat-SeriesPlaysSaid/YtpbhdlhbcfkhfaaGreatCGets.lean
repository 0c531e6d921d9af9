/-
  Plain facts on samples in chunks: what is got behind putting and dropping.
-/
import Derived.Test.YtpbhdlhbcfkhfaaGreatCMath
namespace Go.Proofs.YtpbhdlhbcfkhfaaGreat
set_option linter.unusedVariables false
set_option linter.unusedSimpArgs false

theorem mem_at {z : List (Int × Int)} {x : Int × Int} (h : x ∈ z) : ∃ i, i < z.length ∧ tOf z i = x.1 ∧ vOf z i = x.2 := by
  obtain ⟨i, hi, rfl⟩ := List.mem_iff_getElem.1 h
  refine ⟨i, hi, ?_, ?_⟩
  · unfold tOf; rw [List.getD_eq_getElem?_getD, List.getElem?_eq_getElem hi]; rfl
  · unfold vOf; rw [List.getD_eq_getElem?_getD, List.getElem?_eq_getElem hi]; rfl
theorem at_mem {z : List (Int × Int)} {i : Nat} (h : i < z.length) : (tOf z i, vOf z i) ∈ z := by
  have : (tOf z i, vOf z i) = z[i] := by
    unfold tOf vOf; rw [List.getD_eq_getElem?_getD, List.getElem?_eq_getElem h]; rfl
  rw [this]; exact List.getElem_mem h
theorem getL_mem {z : List (Int × Int)} (h : Rising z) {t v : Int} (hm : (t, v) ∈ z) : getL z t = (v, 0) := by
  obtain ⟨i, hi, ht, hv⟩ := mem_at hm
  obtain ⟨a, b⟩ := at_is h t i hi ht
  unfold getL
  rw [if_pos (by omega), a, hv]
theorem getL_no {z : List (Int × Int)} (h : Rising z) {t : Int} (hm : ∀ x ∈ z, x.1 ≠ t) : getL z t = (0, 5) := by
  unfold getL
  rw [if_neg]
  intro hlt
  obtain ⟨a, b⟩ := (at_time h t).1 hlt
  exact hm _ (at_mem a) b
/-- Two lists that have the same samples of a time. -/
theorem getL_same {x y : List (Int × Int)} (hx : Rising x) (hy : Rising y) {t : Int} (h : ∀ v, (t, v) ∈ x ↔ (t, v) ∈ y) : getL x t = getL y t := by
  by_cases e : ∃ v, (t, v) ∈ x
  · obtain ⟨v, hv⟩ := e
    rw [getL_mem hx hv, getL_mem hy ((h v).1 hv)]
  · rw [getL_no hx (fun u hu ht => e ⟨u.2, by rw [← ht]; exact hu⟩), getL_no hy (fun u hu ht => e ⟨u.2, (h u.2).2 (by rw [← ht]; exact hu)⟩)]
theorem dropL_mem {z : List (Int × Int)} (h : Rising z) (a b : Int) (x : Int × Int) : x ∈ dropL z a b ↔ x ∈ z ∧ (x.1 < a ∨ b < x.1) := by
  rw [← filter_is h a b]; simp
theorem insL_mem {z : List (Int × Int)} (h : Rising z) (t v : Int) (x : Int × Int) : x ∈ insL z t v ↔ (x ∈ z ∧ x.1 ≠ t) ∨ x = (t, v) := by
  have e : dropL z t t = z.take (bef z t) ++ z.drop (upt z t) := by
    unfold dropL
    split
    · have := bef_le_upt h t
      rw [show upt z t = bef z t from by omega, List.take_append_drop]
    · rfl
  have d := dropL_mem h t t x
  rw [e] at d
  unfold insL
  simp only [List.mem_append, List.mem_singleton] at d ⊢
  constructor
  · rintro ((h1 | h1) | h1)
    · obtain ⟨a, b⟩ := d.1 (.inl h1); exact .inl ⟨a, by omega⟩
    · exact .inr h1
    · obtain ⟨a, b⟩ := d.1 (.inr h1); exact .inl ⟨a, by omega⟩
  · rintro (⟨h1, h2⟩ | h1)
    · rcases d.2 ⟨h1, by omega⟩ with h3 | h3
      · exact .inl (.inl h3)
      · exact .inr h3
    · exact .inl (.inr h1)
theorem getL_ins {z : List (Int × Int)} (h : Rising z) (t v : Int) : getL (insL z t v) t = (v, 0) :=
  getL_mem (insL_rising h t v) ((insL_mem h t v (t, v)).2 (.inr rfl))
theorem getL_ins_ne {z : List (Int × Int)} (h : Rising z) (t v s : Int) (hne : s ≠ t) : getL (insL z t v) s = getL z s :=
  getL_same (insL_rising h t v) h fun u => by
    rw [insL_mem h]
    constructor
    · rintro (h1 | h1)
      · exact h1.1
      · cases h1; exact absurd rfl hne
    · intro h1; exact .inl ⟨h1, hne⟩
theorem getL_drop {z : List (Int × Int)} (h : Rising z) (a b t : Int) (ht : t < a ∨ b < t) : getL (dropL z a b) t = getL z t :=
  getL_same (dropL_rising h a b) h fun u => by
    rw [dropL_mem h]
    exact ⟨fun h1 => h1.1, fun h1 => ⟨h1, ht⟩⟩
theorem getL_dropped {z : List (Int × Int)} (h : Rising z) (a b t : Int) (ht : ¬ (t < a ∨ b < t)) : getL (dropL z a b) t = (0, 5) :=
  getL_no (dropL_rising h a b) fun x hx e => by
    obtain ⟨_, h2⟩ := (dropL_mem h a b x).1 hx
    rw [e] at h2
    exact ht h2
theorem newV_last (z : List (Int × Int)) (t v : Int) : newV z t v 3 = (v, 0) := by
  unfold newV; split <;> rfl

end Go.Proofs.YtpbhdlhbcfkhfaaGreat
