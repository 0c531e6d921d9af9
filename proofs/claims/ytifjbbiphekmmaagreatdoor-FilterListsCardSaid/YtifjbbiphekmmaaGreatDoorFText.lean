/-
  Plain: what the library says of texts that are cut, joined and parted, in the words of FMath.
-/
import Derived.Test.YtifjbbiphekmmaaGreatDoorFMath
import Derived.Test.YtifjbbiphekmmaaGreatDoorEMem
import Derived.Lib.Join
import Derived.Lib.Split
import Derived.Lib.Strings
import Derived.Lib.IndexBytes
import Derived.Lib.CountLaws
namespace Go.Proofs.YtifjbbiphekmmaaGreatDoor
open Go.RowKit
set_option linter.unusedVariables false
set_option linter.unusedSimpArgs false

theorem join_tail : ∀ (v : Tx) (r : List Tx), joinC (v :: r) = v ++ Lib.joinTail [44] r
  | v, [] => by simp [joinC, Lib.joinTail]
  | v, u :: r => by
    show v ++ 44 :: joinC (u :: r) = _
    rw [join_tail u r]
    simp [Lib.joinTail]
theorem join_lib (l : List Tx) : Lib.join l [44] = joinC l := by
  cases l with
  | nil => rfl
  | cons v r => rw [Lib.join_cons, join_tail]
theorem join_len_one {v : Tx} {l : List Tx} {K : Nat} (hv : ∀ x ∈ l, x.length ≤ K) : (joinC l).length ≤ l.length * (K + 1) := by
  induction l with
  | nil => simp [joinC]
  | cons x r ih =>
    have hx := hv x (by simp)
    have h2 := ih (fun y hy => hv y (List.mem_cons_of_mem _ hy))
    cases r with
    | nil => show x.length ≤ _; simp; omega
    | cons u r =>
      show (x ++ 44 :: joinC (u :: r)).length ≤ _
      simp only [List.length_append, List.length_cons] at h2 ⊢
      have : (r.length + 1 + 1) * (K + 1) = (r.length + 1) * (K + 1) + (K + 1) := by rw [Nat.add_mul (r.length + 1) 1, Nat.one_mul]
      omega

theorem index_cut (c : UInt8) : ∀ s : Tx, Lib.indexByte s c = match cutAt c s with
    | none => -1
    | some p => (p.1.length : Int)
  | [] => rfl
  | x :: l => by
    have ih := index_cut c l
    unfold Lib.indexByte cutAt
    by_cases h : x = c
    · rw [if_pos (beq_iff_eq.2 h), if_pos h]; rfl
    · rw [if_neg (fun e => h (beq_iff_eq.1 e)), if_neg h, ih]
      cases hq : cutAt c l with
      | none => rfl
      | some p =>
        show (if (((p.1.length : Nat) : Int) == -1) = true then (-1 : Int) else (p.1.length : Int) + 1) = ((x :: p.1).length : Int)
        rw [if_neg (by intro e; have := beq_iff_eq.1 e; omega)]
        simp
theorem bs_ext (s : Tx) (i j : Nat) : (bs s).extract i j = bs ((s.drop i).take (j - i)) := by
  have : ((bs s).extract i j).toList = ((bs s).data.toList.drop i).take (j - i) := Lib.extract_toList _ _ _
  rw [show (bs s).data.toList = s from tx_bs s, Lib.toList_data] at this
  rw [← this]
  exact (bs_tx _).symm
/-- Cut at the first k commas at most. -/
def splitN10 : Nat → Tx → List Tx
  | 0, s => [s]
  | k + 1, s => match cutAt 44 s with
    | none => [s]
    | some p => p.1 :: splitN10 k p.2
theorem split_cut : ∀ s : Tx, splitC s = match cutAt 44 s with
    | none => [s]
    | some p => p.1 :: splitC p.2 := fun s => by
  cases h : cutAt 44 s with
  | none => exact split_one (cut_none.1 h)
  | some p =>
    obtain ⟨a, r⟩ := p
    obtain ⟨e, h1⟩ := cut_some h
    rw [e]
    exact split_more h1
theorem splitB_bs : ∀ (k : Nat) (s : Tx), Lib.splitB ⟨#[44]⟩ 0 k (bs s) = (splitN10 k s).map bs
  | 0, s => rfl
  | k + 1, s => by
    have hi : Lib.indexB (bs s) ⟨#[44]⟩ = Lib.indexByte s 44 := by
      show Lib.index (bs s).data.toList [44] = _
      rw [show (bs s).data.toList = s from tx_bs s]
      exact Lib.index_one s 44
    rw [index_cut] at hi
    unfold splitN10
    cases h : cutAt 44 s with
    | none =>
      rw [h] at hi
      rw [Lib.splitB_miss _ _ _ _ hi]; rfl
    | some p =>
      rw [h] at hi
      obtain ⟨a, r⟩ := p
      obtain ⟨e, h1⟩ := cut_some h
      rw [Lib.splitB_hit _ _ _ _ _ hi, bs_ext, bs_ext, bs_size]
      show bs _ :: _ = bs a :: (splitN10 k r).map bs
      rw [← splitB_bs k r]
      have e1 : (List.drop 0 s).take (a.length + 0 - 0) = a := by rw [e]; simp
      have e2 : (List.drop (a.length + (⟨#[44]⟩ : ByteArray).size) s).take (s.length - (a.length + (⟨#[44]⟩ : ByteArray).size)) = r := by
        rw [show (⟨#[44]⟩ : ByteArray).size = 1 from rfl, e]
        rw [show a ++ 44 :: r = (a ++ [44]) ++ r by simp, show a.length + 1 = (a ++ [(44 : UInt8)]).length by simp, List.drop_left]
        exact List.take_of_length_le (by simp; omega)
      rw [e1, e2]
theorem splitN_len : ∀ (k : Nat) (s : Tx), (splitN10 k s).length = min (k + 1) (splitC s).length
  | 0, s => by
    have : (splitC s).length ≠ 0 := fun e => split_ne s (List.length_eq_zero_iff.1 e)
    show 1 = _; omega
  | k + 1, s => by
    rw [split_cut]
    unfold splitN10
    cases h : cutAt 44 s with
    | none => show 1 = min (k + 1 + 1) 1; omega
    | some p =>
      show (splitN10 k p.2).length + 1 = min (k + 1 + 1) ((splitC p.2).length + 1)
      rw [splitN_len k p.2]; omega
theorem splitN_all : ∀ (k : Nat) (s : Tx), (splitC s).length ≤ k + 1 → splitN10 k s = splitC s
  | 0, s, hl => by
    rw [split_cut] at hl ⊢
    cases h : cutAt 44 s with
    | none => rfl
    | some p =>
      rw [h] at hl
      have : (splitC p.2).length ≠ 0 := fun e => split_ne p.2 (List.length_eq_zero_iff.1 e)
      simp only [List.length_cons] at hl
      omega
  | k + 1, s, hl => by
    rw [split_cut] at hl ⊢
    unfold splitN10
    cases h : cutAt 44 s with
    | none => rfl
    | some p =>
      rw [h] at hl
      show p.1 :: splitN10 k p.2 = p.1 :: splitC p.2
      rw [splitN_all k p.2 (by simp only [List.length_cons] at hl; omega)]
theorem split_lenT (s : Tx) : (splitC s).length ≤ s.length + 1 := by
  induction s with
  | nil => simp [splitC]
  | cons x l ih =>
    unfold splitC
    by_cases hx : x = 44
    · rw [if_pos hx]; simp; exact ih
    · rw [if_neg hx]
      cases hq : splitC l with
      | nil => simp
      | cons p q => rw [hq] at ih; simp at ih ⊢; omega
/-- The values as the program reads them. -/
def valsP (s : Tx) : List Tx := if s = [] then [] else if s.head? = some 40 ∧ s.getLast? = some 41 ∧ 2 ≤ s.length then splitN10 (min 17 ((s.drop 1).dropLast.length + 1) - 1) (s.drop 1).dropLast else [s]
theorem vals_same (s : Tx) : valsP s = valsT s ∨ (17 ≤ (valsP s).length ∧ 17 ≤ (valsT s).length) := by
  unfold valsP valsT
  by_cases h0 : s = []
  · rw [if_pos h0, if_pos h0]; exact .inl rfl
  · rw [if_neg h0, if_neg h0]
    by_cases h1 : s.head? = some 40 ∧ s.getLast? = some 41 ∧ 2 ≤ s.length
    · rw [if_pos h1, if_pos h1]
      have hl := split_lenT (s.drop 1).dropLast
      generalize (s.drop 1).dropLast = z at *
      by_cases h2 : (splitC z).length ≤ min 17 (z.length + 1) - 1 + 1
      · exact .inl (splitN_all _ _ h2)
      · refine .inr ⟨?_, by omega⟩
        rw [splitN_len]; omega
    · rw [if_neg h1, if_neg h1]; exact .inl rfl
theorem vals_right (n : Tx) (b : Bool) (s : Tx) : rightT (n, b, valsP s) ↔ rightT (n, b, valsT s) := by
  rcases vals_same s with e | ⟨h1, h2⟩
  · rw [e]
  · exact ⟨fun h => absurd h.1 (by show ¬ (valsP s).length ≤ 16; omega), fun h => absurd h.1 (by show ¬ (valsT s).length ≤ 16; omega)⟩
theorem vals_eq {n : Tx} {b : Bool} {s : Tx} (h : rightT (n, b, valsP s)) : valsP s = valsT s := by
  rcases vals_same s with e | ⟨h1, h2⟩
  · exact e
  · exact absurd h.1 (by show ¬ (valsP s).length ≤ 16; omega)
theorem valsP_len (s : Tx) : (valsP s).length ≤ 17 := by
  unfold valsP
  split
  · simp
  · split
    · rw [splitN_len]; omega
    · simp
theorem splitN_short : ∀ (k : Nat) (s : Tx), ∀ v ∈ splitN10 k s, v.length ≤ s.length
  | 0, s, v, h => by simp [splitN10] at h; rw [h]; exact Nat.le_refl _
  | k + 1, s, v, h => by
    unfold splitN10 at h
    cases hc : cutAt 44 s with
    | none => rw [hc] at h; simp at h; rw [h]; exact Nat.le_refl _
    | some p =>
      rw [hc] at h
      obtain ⟨e, _⟩ := cut_some (a := p.1) (r := p.2) hc
      have hl : s.length = p.1.length + 1 + p.2.length := by rw [e]; simp; omega
      rcases List.mem_cons.1 h with rfl | h
      · omega
      · have := splitN_short k p.2 v h; omega
theorem opened_iff (s : Tx) : Lib.hasPrefix s [40] = decide (s.head? = some 40) := by
  cases s with
  | nil => rfl
  | cons x l =>
    by_cases h : x = 40
    · subst h; rfl
    · rw [show decide ((x :: l).head? = some 40) = false from decide_eq_false (by simpa using h)]
      show ((40 : UInt8) == x && _) = false
      rw [beq_eq_false_iff_ne.2 (fun e => h e.symm)]; rfl
theorem suffix_iff (c : UInt8) (s : Tx) : Lib.hasSuffix s [c] = decide (s.getLast? = some c) := by
  unfold Lib.hasSuffix
  by_cases h : s.getLast? = some c
  · rw [decide_eq_true h]
    obtain ⟨d, rfl⟩ := List.getLast?_eq_some_iff.1 h
    rw [List.isSuffixOf_iff_suffix]
    exact List.suffix_append _ _
  · rw [decide_eq_false h]
    cases hq : [c].isSuffixOf s with
    | false => rfl
    | true =>
      obtain ⟨d, rfl⟩ := List.isSuffixOf_iff_suffix.1 hq
      exact absurd (last_app d c) h
theorem trim_suf (c : UInt8) (s : Tx) : Lib.trimSuffix s [c] = if s.getLast? = some c then s.dropLast else s := by
  unfold Lib.trimSuffix
  rw [suffix_iff]
  by_cases h : s.getLast? = some c
  · rw [decide_eq_true h, if_pos rfl, if_pos h, List.dropLast_eq_take]; rfl
  · rw [decide_eq_false h, if_neg h]; rfl
theorem trim_pre (s : Tx) : Lib.trimPrefix s [40] = if s.head? = some 40 then s.drop 1 else s := by
  unfold Lib.trimPrefix
  rw [opened_iff]
  by_cases h : s.head? = some 40
  · rw [decide_eq_true h, if_pos rfl, if_pos h]; rfl
  · rw [decide_eq_false h, if_neg h]; rfl
end Go.Proofs.YtifjbbiphekmmaaGreatDoor
