/-
  Contract of sets.Of: of any texts, those that slices.Sort and slices.Compact leave of a copy: each once, sorted, in memory of the call's own.
-/
import Derived.Test.YtlogkhifgkkjeaaEMem
import Derived.Test.YtlogkhifgkkjeaaEShelf
import Derived.Lib.OwnBridge
import Derived.Sort.OwnSorted
namespace Go.Proofs.Ytlogkhifgkkjeaa
open Go.RowKit Go.Sort
set_option linter.unusedVariables false
set_option linter.unusedSimpArgs false

theorem le_ne_lt {x y : Tx} (h : x ≤ y) (k : x ≠ y) : x < y := by
  rcases lt_3 x y with h1 | h1 | h1
  · exact h1
  · exact absurd h1 k
  · exact absurd h1 (List.not_lt.2 h)
/-- What slices.Compact leaves of texts that do not fall. -/
theorem compact_is {z : List Tx} (h : z.Pairwise (· ≤ ·)) : Lib.compact z = canon z := by
  have hd : ∀ i, i < z.length → (z.toArray)[i]! = z.getD i [] := fun i hi => by
    rw [getD_get hi]; simp [getElem!_pos, hi]
  refine canon_eq ?_ (fun x => ?_)
  · unfold Lib.compact Lib.compactUpTo SS
    rw [List.pairwise_map]
    refine List.Pairwise.imp_of_mem (R := (· < ·)) (fun {i j} hi hj hij => ?_) (List.Pairwise.filter _ List.pairwise_lt_range)
    obtain ⟨hi1, _⟩ := List.mem_filter.1 hi
    obtain ⟨hj1, hj2⟩ := List.mem_filter.1 hj
    have hi3 := List.mem_range.1 hi1
    have hj3 := List.mem_range.1 hj1
    have hle : ∀ a b, a < b → b < z.length → z.getD a [] ≤ z.getD b [] := fun a b hab hb => by
      rw [getD_get (by omega), getD_get hb]; exact List.pairwise_iff_getElem.1 h a b (by omega) hb hab
    have hk : z.getD j [] ≠ z.getD (j - 1) [] := by
      simp only [Lib.keeps] at hj2
      rw [hd j hj3, hd (j - 1) (by omega)] at hj2
      intro e
      rw [e] at hj2
      simp at hj2
      omega
    rw [hd i hi3, hd j hj3]
    have h1 : z.getD (j - 1) [] < z.getD j [] := le_ne_lt (hle (j - 1) j (by omega) hj3) (fun e => hk e.symm)
    by_cases e : i = j - 1
    · rw [e]; exact h1
    · exact List.lt_of_le_of_lt (hle i (j - 1) (by omega) (by omega)) h1
  · unfold Lib.compact Lib.compactUpTo
    rw [List.mem_map]
    constructor
    · rintro ⟨i, hi, rfl⟩
      have hi3 := List.mem_range.1 (List.mem_filter.1 hi).1
      rw [hd i hi3, getD_get hi3]
      exact List.getElem_mem hi3
    · intro hx
      have hex : ∃ i, i < z.length ∧ z.getD i [] = x := by
        obtain ⟨i, hi, e⟩ := List.getElem_of_mem hx
        exact ⟨i, hi, by rw [getD_get hi]; exact e⟩
      have key : ∀ n, (∃ i, i ≤ n ∧ i < z.length ∧ z.getD i [] = x) → ∃ i, i < z.length ∧ z.getD i [] = x ∧ ∀ j, j < i → z.getD j [] ≠ x := by
        intro n
        induction n with
        | zero =>
          rintro ⟨i, h1, h2, h3⟩
          exact ⟨i, h2, h3, fun j hj => by omega⟩
        | succ n ih =>
          intro hh
          by_cases hn : ∃ i, i ≤ n ∧ i < z.length ∧ z.getD i [] = x
          · exact ih hn
          · obtain ⟨i, h1, h2, h3⟩ := hh
            exact ⟨i, h2, h3, fun j hj e => hn ⟨j, by omega, by omega, e⟩⟩
      obtain ⟨i0, q1, q2⟩ := hex
      obtain ⟨i, h1, h2, h3⟩ := key i0 ⟨i0, Nat.le_refl _, q1, q2⟩
      refine ⟨i, List.mem_filter.2 ⟨List.mem_range.2 h1, ?_⟩, by rw [hd i h1]; exact h2⟩
      simp only [Lib.keeps]
      by_cases hi0 : i = 0
      · simp [hi0]
      · refine decide_eq_true (.inr ?_)
        rw [hd i h1, hd (i - 1) (by omega), h2]
        exact fun e => h3 (i - 1) (by omega) e.symm
theorem sort_compact (l : List Tx) : Lib.compact (l.mergeSort fun x y => decide (x ≤ y)) = canon l := by
  rw [compact_is]
  · exact canon_same (fun x => (List.mergeSort_perm l _).mem_iff)
  · have := List.pairwise_mergeSort (le := fun x y : Tx => decide (x ≤ y)) (fun a b c h1 h2 => by simp only [decide_eq_true_eq] at *; exact List.le_trans h1 h2) (fun a b => by simpa using List.le_total a b) l
    exact this.imp (fun h => by simpa using h)

/-- What a call that makes a list leaves. -/
def MadeP (w : World) (l : List Tx) (e : Ending) (w' : World) : Prop := ∃ v, e = .returned v ∧ TRow w' w.heap.size v l ∧ Below w.heap.size w w'
theorem MadeP.to {w w' : World} {l : List Tx} {e : Ending} (h : MadeP w l e w') : ∃ a c, e = .returned (.slice a l.length c) ∧ TxAt w' a l.length c l ∧ Below w.heap.size w w' := by
  obtain ⟨v, rfl, h1, h2⟩ := h
  obtain ⟨a, c, rfl, h3⟩ := h1.shape
  exact ⟨a, c, rfl, h3, h2⟩

/-- The end, outside the walk. -/
theorem of_left {w w1 : World} {g cap n nn q : Nat} {os : Array Obj} {ss : List Tx} (hown : w1.ownsRow w.heap.size 9 1 (.slice (some ⟨g, 0, none⟩) n cap) n (ss.map encStr)) (hbel : Below w.heap.size w w1) (hbg : w.heap.size ≤ g) (hlen : ss.length = n) :
    MadeP w (canon ss) (.returned (.slice (some ⟨g, 0, none⟩) (Lib.compact (ss.mergeSort fun x y => decide (x ≤ y))).length cap))
      (putRow encStr (Sort.ahead (grow (putRow encStr (Sort.ahead w1 nn) g 0 (ss.mergeSort fun x y => decide (x ≤ y)).toArray) os) q) g 0 (Lib.compact (ss.mergeSort fun x y => decide (x ≤ y)) ++ List.replicate (n - (Lib.compact (ss.mergeSort fun x y => decide (x ≤ y))).length) []).toArray) := by
  have hl2 : (ss.mergeSort fun x y => decide (x ≤ y)).length = ss.length := List.length_mergeSort ss
  have hle := Lib.compact_length_le (ss.mergeSort fun x y => decide (x ≤ y))
  subst hlen
  rcases hown.2 with ⟨h0, _⟩ | ⟨g', cap', cur, hv, hbase, hb, h1, h2, h3, h4⟩
  · cases h0
  cases hv
  have hs := ownsRow_sorted (n := nn) (os := os) (ts := ss.mergeSort fun x y => decide (x ≤ y)) hl2 hbase hb h1 h2 h3
  have hc := Lib.ownsRow_putRow (q := q) (k := (Lib.compact (ss.mergeSort fun x y => decide (x ≤ y))).length) (ys := Lib.compact (ss.mergeSort fun x y => decide (x ≤ y)) ++ List.replicate (ss.length - (Lib.compact (ss.mergeSort fun x y => decide (x ≤ y))).length) []) hs (by simp; omega) (by omega)
  rw [List.take_left] at hc
  refine ⟨_, rfl, ?_, Lib.below_putRow (hbel.grown (grownBy_sorted _) hbel.size (fun j hj => by cases hj; exact hbase)) hbg⟩
  rw [sort_compact] at *
  exact TRow.of hc

set_option maxHeartbeats 2000000 in
set_option maxRecDepth 100000 in
theorem of_tail (n : Nat) (arg : Value) (ss : List Tx) (w : World) (hn : n ≤ 1048576)
    (hclone : Calls Try.prog 53 #[arg] w fun e w' => ∃ v', e = .returned v' ∧ w'.ownsRow w.heap.size 9 1 v' n (ss.map encStr) ∧ v' ≠ .slice none 0 0 ∧ Below w.heap.size w w') :
    Calls Try.prog 38 #[arg] w (MadeP w (canon ss)) := by
  go_enter Try.func38, Try.ntmps38
  go_wp2_with fail
  refine hclone.mono ?_
  rintro e w1 ⟨v1, rfl, hown, hnn, hbel⟩
  obtain ⟨g, cap, rfl, hbg, hgl, hncap, hcm, hlen, hH⟩ := Lib.holds_of_ownsRow hown hnn
  have hsort := sh_slices_Sort_string g 0 cap ss w1 hH hgl (by omega)
  rw [hlen] at hsort
  have HSo := Lib.hid hsort
  have X := Lib.hid (show w1.ownsRow w.heap.size 9 1 (.slice (some ⟨g, 0, none⟩) n cap) n (ss.map encStr) ∧ Below w.heap.size w w1 ∧ w.heap.size ≤ g ∧ g < w1.heap.size ∧ n ≤ cap ∧ cap ≤ maxLen ∧ ss.length = n ∧ Holds encStr w1 g 0 ss.toArray from ⟨hown, hbel, hbg, hgl, hncap, hcm, hlen, hH⟩)
  clear hown hbel hH hnn hclone hsort hlen
  go_wp2_with fail
  refine HSo.out.mono ?_
  rintro e w2 ⟨rfl, nn, os, rfl⟩
  have hl2 : (ss.mergeSort fun x y => decide (x ≤ y)).length = n := by rw [List.length_mergeSort]; exact X.out.2.2.2.2.2.2.1
  have hH2 : Holds encStr (grow (putRow encStr (Sort.ahead w1 nn) g 0 (ss.mergeSort fun x y => decide (x ≤ y)).toArray) os) g 0 (ss.mergeSort fun x y => decide (x ≤ y)).toArray :=
    holds_grow encStr _ os g 0 _ (by simpa [putRow, mapBlock, Sort.ahead] using X.out.2.2.2.1) (holds_putRow encStr _ g 0 _ _ (holds_ahead encStr w1 nn g 0 _ X.out.2.2.2.2.2.2.2) (by simp))
  have hcomp := sh_slices_Compact_string g 0 cap (ss.mergeSort fun x y => decide (x ≤ y)) _ hH2 (by omega) (by have := X.out.2.2.2.2.1; omega)
  rw [hl2] at hcomp
  have HC := Lib.hid hcomp
  have HE := Lib.hid (fun q => of_left (nn := nn) (q := q) (os := os) X.out.1 X.out.2.1 X.out.2.2.1 X.out.2.2.2.2.2.2.1)
  clear hH2 hcomp hl2
  generalize grow (putRow encStr (Sort.ahead w1 nn) g 0 (ss.mergeSort fun x y => decide (x ≤ y)).toArray) os = W2 at *
  generalize Lib.compact (ss.mergeSort fun x y => decide (x ≤ y)) = R at *
  go_wp2_with fail
  refine HC.out.mono ?_
  rintro e w3 ⟨rfl, q, rfl⟩
  have HF := Lib.hid (HE.out q)
  generalize putRow encStr (Sort.ahead W2 q) g 0 (R ++ List.replicate (n - R.length) []).toArray = W3 at *
  go_wp2
  go_ret
  exact HF.out

set_option maxHeartbeats 2000000 in
theorem of_nil (n c : Nat) (w : World) : Calls Try.prog 38 #[.slice none n c] w (MadeP w []) := by
  go_enter Try.func38, Try.ntmps38
  go_wp2_with fail
  refine (sh_slices_Clone_string_nil n c _).mono ?_
  rintro e w' ⟨rfl, rfl⟩
  go_wp2_with fail
  refine (sh_slices_Sort_string_none none 0 _).mono ?_
  rintro e w' ⟨rfl, rfl⟩
  go_wp2_with fail
  refine (sh_slices_Compact_string_empty none 0 _).mono ?_
  rintro e w' ⟨rfl, rfl⟩
  go_wp2
  go_ret
  exact ⟨_, rfl, TRow.nil _ _, Below.refl _ _⟩

theorem of_any (a : Option Addr) (n c : Nat) (l : List Tx) (w : World) (h : TxAt w a n c l) (hn : n ≤ 1048576) :
    Calls Try.prog 38 #[.slice a n c] w (MadeP w (canon l)) := by
  obtain ⟨h1, h2, h3, h4⟩ := h
  cases a with
  | none =>
    have h0 : n = 0 := by
      rcases h4 with e | ⟨b, off, e, _⟩
      · exact e
      · cases e
    subst h0
    have e0 : l = [] := List.eq_nil_of_length_eq_zero h1
    subst e0
    exact of_nil 0 c w
  | some ad =>
    rcases h4 with e | ⟨b, off, e, hlt, hc⟩
    · subst e
      have e0 : l = [] := List.eq_nil_of_length_eq_zero h1
      subst e0
      exact of_tail 0 _ [] w (by omega) (sh_slices_Clone_string_zero ad c w)
    · simp only [Option.some.injEq] at e
      subst e
      refine of_tail n _ l w hn ((sh_slices_Clone_string b off n c (l.map bs) w (by simp; omega) (by omega) (fun j hj => ?_)).mono ?_)
      · simp only [List.length_map] at hj
        rw [hc j (by omega), getD_get hj, List.getD_eq_getElem?_getD, List.getElem?_map, List.getElem?_eq_getElem hj]; rfl
      · rintro e w' ⟨v', he, hown, hnn, hbel⟩
        refine ⟨v', he, ?_, hnn, hbel⟩
        rw [List.take_of_length_le (by simp; omega)] at hown
        rw [show l.map encStr = (l.map bs).map Value.string from by rw [List.map_map]; rfl]
        exact hown

end Go.Proofs.Ytlogkhifgkkjeaa
