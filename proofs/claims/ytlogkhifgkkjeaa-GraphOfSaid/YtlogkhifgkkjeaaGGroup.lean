/-
  The rules of the sources that were met among the first i rules (plain).
-/
import Derived.Test.YtlogkhifgkkjeaaGDel
namespace Go.Proofs.Ytlogkhifgkkjeaa
open Go.RowKit
set_option linter.unusedVariables false
set_option linter.unusedSimpArgs false

def seenU (L : List Ru) (i : Nat) (k : Tx) : Bool := (L.take i).any fun q => decide (q.src = k)
def madeG (L : List Ru) (i : Nat) : List Ru := L.filter fun r => seenU L i r.src
theorem ahU_src {a b : Ru} (h : ahU a b) : a.src = b.src ∨ a.src < b.src := by
  by_cases e : a.src = b.src
  · exact .inl e
  · exact .inr ((ahU_ne e).1 h)
theorem ahU_lt {a b : Ru} (h : a.src < b.src) : ahU a b := (ahU_ne (lt_ne h)).2 h
theorem pw_at {L : List Ru} (h : L.Pairwise ahU) {s t : Nat} (hst : s < t) (ht : t < L.length) : ahU (uA L s) (uA L t) := by
  rw [uA_get ht, uA_get (by omega)]
  exact List.pairwise_iff_getElem.1 h s t (by omega) ht hst
theorem seen_iff {L : List Ru} {i : Nat} {k : Tx} (hi : i ≤ L.length) : seenU L i k = true ↔ ∃ t, t < i ∧ (uA L t).src = k := by
  unfold seenU
  rw [List.any_eq_true]
  constructor
  · rintro ⟨q, hq, e⟩
    obtain ⟨t, ht, rfl⟩ := List.getElem_of_mem hq
    have hti : t < i := by rw [List.length_take] at ht; omega
    refine ⟨t, hti, ?_⟩
    rw [uA_get (by omega)]
    simpa using e
  · rintro ⟨t, ht, e⟩
    refine ⟨uA L t, ?_, by simpa using e⟩
    rw [uA_get (by omega)]
    exact List.mem_take_iff_getElem.2 ⟨t, by omega, rfl⟩
theorem seen_succ {L : List Ru} {i : Nat} {k : Tx} (hi : i < L.length) : seenU L (i + 1) k = (seenU L i k || decide ((uA L i).src = k)) := by
  unfold seenU
  rw [take_snoc_u hi, List.any_append]
  simp
theorem made_0 (L : List Ru) : madeG L 0 = [] := by unfold madeG seenU; simp
theorem made_le (L : List Ru) (i : Nat) : (madeG L i).length ≤ L.length := List.length_filter_le ..
theorem made_same {L : List Ru} {i : Nat} (hi : i < L.length) (h : seenU L i (uA L i).src = true) : madeG L (i + 1) = madeG L i := by
  unfold madeG
  congr 1
  funext r
  rw [seen_succ hi]
  by_cases e : (uA L i).src = r.src
  · rw [← e, h]; rfl
  · rw [decide_eq_false e, Bool.or_false]
theorem made_new {L : List Ru} {i : Nat} (hL : L.Pairwise ahU) (hi : i < L.length) (h : seenU L i (uA L i).src = false) : madeG L (i + 1) = madeG L i ++ ofL L (uA L i).src := by
  refine ah_ext (hL.filter _) (List.pairwise_append.2 ⟨hL.filter _, hL.filter _, ?_⟩) (fun p => ?_)
  · intro x hx y hy
    obtain ⟨hx1, hx2⟩ := List.mem_filter.1 hx
    obtain ⟨hy1, hy2⟩ := mem_ofL.1 hy
    obtain ⟨t, ht, et⟩ := (seen_iff (by omega)).1 hx2
    refine ahU_lt ?_
    rw [hy2, ← et]
    rcases ahU_src (pw_at hL ht hi) with q | q
    · have := (seen_iff (L := L) (i := i) (k := (uA L i).src) (by omega)).2 ⟨t, ht, q⟩
      rw [h] at this; cases this
    · exact q
  · unfold madeG
    rw [List.mem_append, List.mem_filter, List.mem_filter, mem_ofL, seen_succ hi, Bool.or_eq_true, decide_eq_true_iff]
    constructor
    · rintro ⟨a, b | b⟩
      · exact .inl ⟨a, b⟩
      · exact .inr ⟨a, b.symm⟩
    · rintro (⟨a, b⟩ | ⟨a, b⟩)
      · exact ⟨a, .inl b⟩
      · exact ⟨a, .inr b.symm⟩
theorem seen_prev {L : List Ru} {i : Nat} (hL : L.Pairwise ahU) (h0 : 0 < i) (hi : i < L.length) : seenU L i (uA L i).src = decide ((uA L (i - 1)).src = (uA L i).src) := by
  by_cases e : (uA L (i - 1)).src = (uA L i).src
  · rw [decide_eq_true e]
    exact (seen_iff (by omega)).2 ⟨i - 1, by omega, e⟩
  · rw [decide_eq_false e]
    refine Bool.eq_false_iff.2 fun k => ?_
    obtain ⟨t, ht, et⟩ := (seen_iff (by omega)).1 k
    have h2 := (ahU_src (pw_at hL (s := i - 1) (t := i) (by omega) hi)).resolve_left e
    by_cases ht1 : t = i - 1
    · subst ht1; exact e et
    · rcases ahU_src (pw_at hL (s := t) (t := i - 1) (by omega) (by omega)) with q | q
      · exact e (q.symm.trans et)
      · rw [et] at q; exact lt_as h2 q
theorem seen_first (L : List Ru) (k : Tx) : seenU L 0 k = false := by unfold seenU; simp
theorem made_all (L : List Ru) : madeG L L.length = L := by
  unfold madeG
  refine List.filter_eq_self.2 fun r hr => ?_
  obtain ⟨t, ht, rfl⟩ := uA_ex hr
  exact (seen_iff (Nat.le_refl _)).2 ⟨t, ht, rfl⟩
/-- No two go into one key. -/
theorem dst_ne {L : List Ru} (g : GoodU L) {s t : Nat} (hst : s < t) (ht : t < L.length) : (uA L s).dst ≠ (uA L t).dst := fun e => by
  have h1 := g.one _ (uA_mem (by omega : s < L.length)) _ (uA_mem ht) e
  have h2 := pw_at g.ord hst ht
  rw [h1] at h2
  exact ahU_no _ h2

end Go.Proofs.Ytlogkhifgkkjeaa
