/-
  Contracts.
-/
import Derived.Test.YtmifpfojhlmbkaaGreatJ4
import Derived.Test.YtmifpfojhlmbkaaGreatJ8
import Derived.Deep.SlicePairs
import Derived.ProofKit
import Derived.OpenShut
namespace Go.Proofs.YtmifpfojhlmbkaaGreat
open Lib (hid)
set_option maxRecDepth 100000
set_option maxHeartbeats 16000000
set_option linter.unusedVariables false
set_option linter.unusedSimpArgs false
theorem tOf_get {z : List (Int × Int)} {i : Nat} (h : i < z.length) : tOf z i = z[i].1 := by unfold tOf; rw [List.getD_eq_getElem?_getD, List.getElem?_eq_getElem h]; rfl
theorem rising_pw (z : List (Int × Int)) : Rising z ↔ z.Pairwise (fun a b => a.1 < b.1) := by
  rw [List.pairwise_iff_getElem]
  constructor
  · intro h i j hi hj hij
    have := h i j hij hj
    rwa [tOf_get hi, tOf_get hj] at this
  · intro h i j hij hj
    rw [tOf_get (by omega), tOf_get hj]
    exact h i j (by omega) hj hij
theorem rising_left {x y : List (Int × Int)} (h : Rising (x ++ y)) : Rising x := (rising_pw x).2 (List.pairwise_append.1 ((rising_pw _).1 h)).1
theorem rising_right {x y : List (Int × Int)} (h : Rising (x ++ y)) : Rising y := (rising_pw y).2 (List.pairwise_append.1 ((rising_pw _).1 h)).2.1
theorem rising_cross {x y : List (Int × Int)} (h : Rising (x ++ y)) : ∀ a ∈ x, ∀ b ∈ y, a.1 < b.1 := (List.pairwise_append.1 ((rising_pw _).1 h)).2.2
theorem tOf_mem {z : List (Int × Int)} {i : Nat} (h : i < z.length) : ∃ a ∈ z, a.1 = tOf z i := ⟨_, List.getElem_mem h, (tOf_get h).symm⟩
theorem get3 (x y u : List (Int × Int)) (i : Nat) : (x ++ y ++ u).getD i (0, 0) = if i < x.length then x.getD i (0, 0) else if i < x.length + y.length then y.getD (i - x.length) (0, 0) else u.getD (i - x.length - y.length) (0, 0) := by
  by_cases h1 : i < x.length
  · rw [if_pos h1, List.append_assoc, getD_app_left x _ i h1]
  · rw [if_neg h1, List.append_assoc, getD_app_right x _ i (by omega)]
    by_cases h2 : i < x.length + y.length
    · rw [if_pos h2, getD_app_left _ _ _ (by omega)]
    · rw [if_neg h2, getD_app_right _ _ _ (by omega)]
theorem tOf3 (x y u : List (Int × Int)) (i : Nat) : tOf (x ++ y ++ u) i = if i < x.length then tOf x i else if i < x.length + y.length then tOf y (i - x.length) else tOf u (i - x.length - y.length) := by
  unfold tOf; rw [get3]; (repeat' split) <;> rfl
theorem bef_parts {x y u : List (Int × Int)} {t : Int} (hy : Rising y) (hx : ∀ a ∈ x, a.1 < t) (hu : ∀ a ∈ u, t < a.1) : bef (x ++ y ++ u) t = x.length + bef y t := by
  have hl := bef_le y t
  refine cnt_is _ _ _ (by simp; omega) ?_ ?_
  · intro i hi
    simp only [decide_eq_true_eq]
    rw [tOf3]
    by_cases h1 : i < x.length
    · rw [if_pos h1]; obtain ⟨a, ha, e⟩ := tOf_mem h1; have := hx a ha; omega
    · rw [if_neg h1, if_pos (by omega)]
      exact (bef_iff hy t _ (by omega)).2 (by omega)
  · intro i hi hn
    simp only [decide_eq_false_iff_not]
    rw [tOf3, if_neg (by omega)]
    by_cases h2 : i < x.length + y.length
    · rw [if_pos h2]; intro e; have := (bef_iff hy t _ (by omega)).1 e; omega
    · rw [if_neg h2]
      obtain ⟨a, ha, e⟩ := tOf_mem (z := u) (i := i - x.length - y.length) (by simp at hn; omega)
      have := hu a ha; omega
theorem upt_parts {x y u : List (Int × Int)} {t : Int} (hy : Rising y) (hx : ∀ a ∈ x, a.1 < t) (hu : ∀ a ∈ u, t < a.1) : upt (x ++ y ++ u) t = x.length + upt y t := by
  have hl := upt_le y t
  refine cnt_is _ _ _ (by simp; omega) ?_ ?_
  · intro i hi
    simp only [decide_eq_true_eq]
    rw [tOf3]
    by_cases h1 : i < x.length
    · rw [if_pos h1]; obtain ⟨a, ha, e⟩ := tOf_mem h1; have := hx a ha; omega
    · rw [if_neg h1, if_pos (by omega)]
      exact (upt_iff hy t _ (by omega)).2 (by omega)
  · intro i hi hn
    simp only [decide_eq_false_iff_not]
    rw [tOf3, if_neg (by omega)]
    by_cases h2 : i < x.length + y.length
    · rw [if_pos h2]; intro e; have := (upt_iff hy t _ (by omega)).1 e; omega
    · rw [if_neg h2]
      obtain ⟨a, ha, e⟩ := tOf_mem (z := u) (i := i - x.length - y.length) (by simp at hn; omega)
      have := hu a ha; omega
theorem ins_parts {x y u : List (Int × Int)} {t : Int} (v : Int) (hy : Rising y) (hx : ∀ a ∈ x, a.1 < t) (hu : ∀ a ∈ u, t < a.1) : insL (x ++ y ++ u) t v = x ++ insL y t v ++ u := by
  have h1 := bef_le y t
  have h2 := upt_le y t
  unfold insL
  rw [bef_parts hy hx hu, upt_parts hy hx hu, List.append_assoc x y u]
  rw [List.take_append, List.drop_append, List.take_of_length_le (by omega), List.drop_of_length_le (by omega)]
  rw [show x.length + bef y t - x.length = bef y t from by omega, show x.length + upt y t - x.length = upt y t from by omega]
  rw [List.take_append_of_le_length h1, List.drop_append_of_le_length h2]
  simp
theorem vOf3_mid (x y u : List (Int × Int)) (i : Nat) (h : i < y.length) : vOf (x ++ y ++ u) (x.length + i) = vOf y i := by
  unfold vOf; rw [get3, if_neg (by omega), if_pos (by omega), show x.length + i - x.length = i from by omega]
theorem newV_parts {x y u : List (Int × Int)} {t : Int} (v p : Int) (hy : Rising y) (hx : ∀ a ∈ x, a.1 < t) (hu : ∀ a ∈ u, t < a.1) : newV (x ++ y ++ u) t v p = newV y t v p := by
  have h2 := upt_le y t
  unfold newV
  rw [bef_parts hy hx hu, upt_parts hy hx hu]
  by_cases h : bef y t < upt y t
  · rw [if_pos h, if_pos (by omega), vOf3_mid x y u _ (by omega)]
  · rw [if_neg h, if_neg (by omega)]
theorem ins_front {z : List (Int × Int)} (hr : Rising z) (k : Nat) (hk : k < z.length) {t : Int} (v p : Int) (h : t < tOf z k) : insL (z.take k) t v ++ z.drop k = insL z t v ∧ newV (z.take k) t v p = newV z t v p := by
  have e : [] ++ z.take k ++ z.drop k = z := by simp
  have hu : ∀ a ∈ z.drop k, t < a.1 := by
    intro a ha
    obtain ⟨i, hi, rfl⟩ := List.mem_iff_getElem.1 ha
    simp at hi
    have := rising_le hr k (k + i) (by omega) (by omega)
    rw [tOf_get (i := k + i) (by omega)] at this
    simp; omega
  have hx : ∀ a ∈ ([] : List (Int × Int)), a.1 < t := by simp
  have h1 := ins_parts v (rising_take hr k) hx hu
  have h2 := newV_parts v p (rising_take hr k) hx hu
  rw [e] at h1 h2
  exact ⟨by rw [h1]; simp, h2.symm⟩
theorem ins_back {z : List (Int × Int)} (hr : Rising z) (k : Nat) (hk : k < z.length) {t : Int} (v p : Int) (h : tOf z k ≤ t) : z.take k ++ insL (z.drop k) t v = insL z t v ∧ newV (z.drop k) t v p = newV z t v p := by
  have e : z.take k ++ z.drop k ++ [] = z := by simp
  have hx : ∀ a ∈ z.take k, a.1 < t := by
    intro a ha
    obtain ⟨i, hi, rfl⟩ := List.mem_iff_getElem.1 ha
    simp at hi
    have := hr i k (by omega) hk
    rw [tOf_get (i := i) (by omega)] at this
    simp; omega
  have hu : ∀ a ∈ ([] : List (Int × Int)), t < a.1 := by simp
  have h1 := ins_parts v (rising_drop hr k) hx hu
  have h2 := newV_parts v p (rising_drop hr k) hx hu
  rw [e] at h1 h2
  exact ⟨by rw [h1]; simp, h2.symm⟩
theorem ins_end {z : List (Int × Int)} (hr : Rising z) {t : Int} (v : Int) (h : ∀ a ∈ z, a.1 < t) : insL z t v = z ++ [(t, v)] := by
  have h1 := ins_parts (x := z) (y := []) (u := []) v rising_nil h (by simp)
  simp at h1
  rw [h1]; simp [insL, bef, upt, cnt]
theorem newV_end {z : List (Int × Int)} (hr : Rising z) {t : Int} (v p : Int) (h : ∀ a ∈ z, a.1 < t) : newV z t v p = (v, 0) := by
  have h1 := newV_parts (x := z) (y := []) (u := []) v p rising_nil h (by simp)
  simp at h1
  rw [h1]; simp [newV, bef, upt, cnt]
def begL (Z : List (List (Int × Int))) (t : Int) : Nat := cnt Z.length fun i => decide (tOf (Z.getD i []) 0 ≤ t)
theorem begL_le (Z : List (List (Int × Int))) (t : Int) : begL Z t ≤ Z.length := cnt_le _ _
theorem chunk_get {Z : List (List (Int × Int))} {i : Nat} (h : i < Z.length) : Z.getD i [] = Z[i] := by rw [List.getD_eq_getElem?_getD, List.getElem?_eq_getElem h]; rfl
theorem flat_cross {Z : List (List (Int × Int))} (hr : Rising Z.flatten) (i j : Nat) (hij : i < j) (hj : j < Z.length) : ∀ a ∈ Z.getD i [], ∀ b ∈ Z.getD j [], a.1 < b.1 := by
  have := (List.pairwise_flatten.1 ((rising_pw _).1 hr)).2
  rw [chunk_get (by omega), chunk_get hj]
  exact List.pairwise_iff_getElem.1 this i j (by omega) hj hij
theorem flat_rising {Z : List (List (Int × Int))} (hr : Rising Z.flatten) {z : List (Int × Int)} (hz : z ∈ Z) : Rising z := (rising_pw z).2 ((List.pairwise_flatten.1 ((rising_pw _).1 hr)).1 z hz)
theorem first_mem {z : List (Int × Int)} (h : z ≠ []) : ∃ a ∈ z, a.1 = tOf z 0 := tOf_mem (by cases z with | nil => exact absurd rfl h | cons a l => simp)
theorem begL_iff {Z : List (List (Int × Int))} (hr : Rising Z.flatten) (hn : ∀ z ∈ Z, z ≠ []) (t : Int) (i : Nat) (hi : i < Z.length) : tOf (Z.getD i []) 0 ≤ t ↔ i < begL Z t := by
  have := cnt_iff Z.length (fun i => decide (tOf (Z.getD i []) 0 ≤ t)) (fun a b hab hb hq => by
    by_cases e : a = b
    · subst e; exact hq
    · have ha : a < Z.length := by omega
      obtain ⟨x, hx, ex⟩ := first_mem (hn (Z.getD a []) (by rw [chunk_get ha]; exact List.getElem_mem ha))
      obtain ⟨y, hy, ey⟩ := first_mem (hn (Z.getD b []) (by rw [chunk_get hb]; exact List.getElem_mem hb))
      have := flat_cross hr a b (by omega) hb x hx y hy
      simp only [decide_eq_true_eq] at hq ⊢
      omega) i hi
  unfold begL
  simpa using this
theorem beg_ahead {Z : List (List (Int × Int))} (hr : Rising Z.flatten) (hn : ∀ z ∈ Z, z ≠ []) (t : Int) : ∀ a ∈ (Z.take (begL Z t - 1)).flatten, a.1 < t := by
  intro a ha
  obtain ⟨z, hz, haz⟩ := List.mem_flatten.1 ha
  obtain ⟨i, hi, rfl⟩ := List.mem_iff_getElem.1 hz
  have hl := begL_le Z t
  simp at hi
  have hj : i + 1 < Z.length := by omega
  have h1 := (begL_iff hr hn t (i + 1) hj).2 (by omega)
  obtain ⟨y, hy, ey⟩ := first_mem (hn (Z.getD (i + 1) []) (by rw [chunk_get hj]; exact List.getElem_mem hj))
  have h2 := flat_cross hr i (i + 1) (by omega) hj a (by rw [chunk_get (by omega)]; simpa using haz) y hy
  omega
theorem beg_behind {Z : List (List (Int × Int))} (hr : Rising Z.flatten) (hn : ∀ z ∈ Z, z ≠ []) (t : Int) : ∀ a ∈ (Z.drop (begL Z t)).flatten, t < a.1 := by
  intro a ha
  obtain ⟨z, hz, haz⟩ := List.mem_flatten.1 ha
  obtain ⟨i, hi, rfl⟩ := List.mem_iff_getElem.1 hz
  simp at hi
  have hj : begL Z t + i < Z.length := by omega
  have h1 : ¬ tOf (Z.getD (begL Z t + i) []) 0 ≤ t := fun e => by have := (begL_iff hr hn t _ hj).1 e; omega
  have hm : Z.getD (begL Z t + i) [] ∈ Z := by rw [chunk_get hj]; exact List.getElem_mem hj
  have hzr := flat_rising hr hm
  have haz' : a ∈ Z.getD (begL Z t + i) [] := by rw [chunk_get hj]; simpa using haz
  obtain ⟨k, hk, e⟩ := List.mem_iff_getElem.1 haz'
  have h2 := rising_le hzr 0 k (by omega) hk
  rw [tOf_get (i := k) hk, e] at h2
  omega
def winA (Z : List (List (Int × Int))) (a b : Int) : Nat := if b < a then 0 else begL Z a - 1
def winB (Z : List (List (Int × Int))) (a b : Int) : Nat := if b < a then 0 else begL Z b
theorem begL_mono {Z : List (List (Int × Int))} (hr : Rising Z.flatten) (hn : ∀ z ∈ Z, z ≠ []) {a b : Int} (h : a ≤ b) : begL Z a ≤ begL Z b := by
  apply Classical.byContradiction
  intro hc
  have hl := begL_le Z a
  have h1 := (begL_iff hr hn a (begL Z b) (by omega)).2 (by omega)
  have h2 := (begL_iff hr hn b (begL Z b) (by omega)).1 (by omega)
  omega
theorem win_le {Z : List (List (Int × Int))} (hr : Rising Z.flatten) (hn : ∀ z ∈ Z, z ≠ []) (a b : Int) : winA Z a b ≤ winB Z a b ∧ winB Z a b ≤ Z.length := by
  unfold winA winB
  split
  · omega
  · have := begL_mono hr hn (a := a) (b := b) (by omega)
    have := begL_le Z b
    omega
def keptB (a b : Int) (x : Int × Int) : Bool := decide (x.1 < a) || decide (b < x.1)
def inB (a b : Int) (x : Int × Int) : Bool := decide (a ≤ x.1) && decide (x.1 ≤ b)
theorem kept_in (a b : Int) (x : Int × Int) : keptB a b x = !inB a b x := by unfold keptB inB; by_cases h1 : x.1 < a <;> by_cases h2 : b < x.1 <;> simp [h1, h2] <;> omega
theorem win_ahead {Z : List (List (Int × Int))} (hr : Rising Z.flatten) (hn : ∀ z ∈ Z, z ≠ []) (a b : Int) : ∀ x ∈ (Z.take (winA Z a b)).flatten, inB a b x = false := by
  intro x hx
  unfold winA at hx
  split at hx
  · simp at hx
  · have := beg_ahead hr hn a x hx
    unfold inB; simp; omega
theorem win_behind {Z : List (List (Int × Int))} (hr : Rising Z.flatten) (hn : ∀ z ∈ Z, z ≠ []) (a b : Int) : ∀ x ∈ (Z.drop (winB Z a b)).flatten, inB a b x = false := by
  intro x hx
  unfold winB at hx
  split at hx
  · unfold inB; simp; omega
  · have := beg_behind hr hn b x hx
    unfold inB; simp; omega
def midL {α : Type} (Z : List α) (f e : Nat) : List α := (Z.take e).drop f
theorem three {α : Type} (Z : List α) (f e : Nat) (h : f ≤ e) : Z.take f ++ midL Z f e ++ Z.drop e = Z := by
  unfold midL
  have : (Z.take e).take f = Z.take f := by rw [List.take_take, Nat.min_eq_left h]
  rw [← this, List.take_append_drop, List.take_append_drop]
theorem win_in {Z : List (List (Int × Int))} (hr : Rising Z.flatten) (hn : ∀ z ∈ Z, z ≠ []) (a b : Int) : Z.flatten.filter (inB a b) = (midL Z (winA Z a b) (winB Z a b)).flatten.filter (inB a b) := by
  have hl := win_le hr hn a b
  conv => lhs; rw [← three Z (winA Z a b) (winB Z a b) hl.1]
  rw [List.flatten_append, List.flatten_append, List.filter_append, List.filter_append]
  have e1 : (Z.take (winA Z a b)).flatten.filter (inB a b) = [] := List.filter_eq_nil_iff.2 (fun x hx => by rw [win_ahead hr hn a b x hx]; simp)
  have e2 : (Z.drop (winB Z a b)).flatten.filter (inB a b) = [] := List.filter_eq_nil_iff.2 (fun x hx => by rw [win_behind hr hn a b x hx]; simp)
  rw [e1, e2, List.nil_append, List.append_nil]
theorem win_kept {Z : List (List (Int × Int))} (hr : Rising Z.flatten) (hn : ∀ z ∈ Z, z ≠ []) (a b : Int) : dropL Z.flatten a b = (Z.take (winA Z a b)).flatten ++ ((midL Z (winA Z a b) (winB Z a b)).map fun z => dropL z a b).flatten ++ (Z.drop (winB Z a b)).flatten := by
  have hl := win_le hr hn a b
  have hm : ((midL Z (winA Z a b) (winB Z a b)).map fun z => dropL z a b).flatten = (midL Z (winA Z a b) (winB Z a b)).flatten.filter (keptB a b) := by
    rw [List.filter_flatten]
    congr 1
    apply List.map_congr_left
    intro z hz
    have hzm : z ∈ Z := List.mem_of_mem_take (List.mem_of_mem_drop hz)
    exact (filter_is (flat_rising hr hzm) a b).symm
  rw [hm, ← filter_is hr a b]
  show Z.flatten.filter (keptB a b) = _
  conv => lhs; rw [← three Z (winA Z a b) (winB Z a b) hl.1]
  rw [List.flatten_append, List.flatten_append, List.filter_append, List.filter_append]
  have e1 : (Z.take (winA Z a b)).flatten.filter (keptB a b) = (Z.take (winA Z a b)).flatten := List.filter_eq_self.2 (fun x hx => by rw [kept_in, win_ahead hr hn a b x hx]; rfl)
  have e2 : (Z.drop (winB Z a b)).flatten.filter (keptB a b) = (Z.drop (winB Z a b)).flatten := List.filter_eq_self.2 (fun x hx => by rw [kept_in, win_behind hr hn a b x hx]; rfl)
  rw [e1, e2]
theorem dropN_len (z : List (Int × Int)) (a b : Int) : z.length = (dropL z a b).length + dropN z a b := by
  have h1 := dropL_length z a b
  have h2 := upt_le z b
  have : dropN z a b ≤ z.length := by unfold dropN; omega
  omega
open Go.RowKit Go.ChangeShapes Go.WideShapes Go.Deep
def SampAt (w : World) (a : Option Addr) (len cap : Nat) (z : List (Int × Int)) : Prop :=
  z.length = len ∧ len ≤ cap ∧ len ≤ 9223372036854775807 ∧ All64 z ∧
  (len = 0 ∨ ∃ b off, a = some ⟨b, off, none⟩ ∧ b < w.heap.size ∧ ∀ i (h : i < z.length), w.cell? ⟨b, off + i * 2, none⟩ = some (.int .i64 z[i].1) ∧ w.cell? ⟨b, off + i * 2 + 1, none⟩ = some (.int .i64 z[i].2))
theorem SampAt.keep {w w' : World} {a : Option Addr} {len cap : Nat} {z : List (Int × Int)} (h : SampAt w a len cap z) (hb : Below w.heap.size w w') : SampAt w' a len cap z := by
  obtain ⟨h1, h2, h3, h4, h5⟩ := h
  refine ⟨h1, h2, h3, h4, ?_⟩
  rcases h5 with h0 | ⟨b, off, rfl, hlt, hc⟩
  · exact .inl h0
  · exact .inr ⟨b, off, rfl, Nat.lt_of_lt_of_le hlt hb.size, fun i hi => by rw [hb.cell hlt, hb.cell hlt]; exact hc i hi⟩
theorem SampAt.at_ {w : World} {a : Option Addr} {len cap : Nat} {z : List (Int × Int)} (h : SampAt w a len cap z) (i : Nat) (hi : i < len) :
    ∃ b off, a = some ⟨b, off, none⟩ ∧ b < w.heap.size ∧ w.cell? ⟨b, off + i * 2, none⟩ = some (.int .i64 (tOf z i)) ∧ w.cell? ⟨b, off + i * 2 + 1, none⟩ = some (.int .i64 (vOf z i)) := by
  obtain ⟨h1, h2, h3, h4, h5⟩ := h
  rcases h5 with h0 | ⟨b, off, rfl, hlt, hc⟩
  · omega
  · have := hc i (by omega)
    refine ⟨b, off, rfl, hlt, ?_⟩
    unfold tOf vOf
    rw [List.getD_eq_getElem?_getD, List.getElem?_eq_getElem (by omega), Option.getD_some]
    exact this
theorem SampAt.all {w : World} {a : Option Addr} {len cap : Nat} {z : List (Int × Int)} (h : SampAt w a len cap z) (h0 : 0 < len) :
    ∃ b off, a = some ⟨b, off, none⟩ ∧ b < w.heap.size ∧ ∀ i, i < len → w.cell? ⟨b, off + i * 2, none⟩ = some (.int .i64 (tOf z i)) ∧ w.cell? ⟨b, off + i * 2 + 1, none⟩ = some (.int .i64 (vOf z i)) := by
  obtain ⟨b, off, rfl, hlt, _⟩ := h.at_ 0 h0
  refine ⟨b, off, rfl, hlt, fun i hi => ?_⟩
  obtain ⟨b', off', e, _, hc⟩ := h.at_ i hi
  simp only [Option.some.injEq, Addr.mk.injEq] at e
  obtain ⟨rfl, rfl, _⟩ := e
  exact hc
theorem SampAt.keep_gb {w w' : World} {a : Option Addr} {len cap : Nat} {z : List (Int × Int)} {row : Option Nat} (h : SampAt w a len cap z) (hg : w.grownBy w' row) (hne : ∀ x, a = some x → some x.block ≠ row) : SampAt w' a len cap z := by
  obtain ⟨h1, h2, h3, h4, h5⟩ := h
  refine ⟨h1, h2, h3, h4, ?_⟩
  rcases h5 with h0 | ⟨b, off, rfl, hlt, hc⟩
  · exact .inl h0
  · have hb := hg.block b hlt (hne _ rfl)
    have hcell : ∀ o, w'.cell? ⟨b, o, none⟩ = w.cell? ⟨b, o, none⟩ := by intro o; simp [World.cell?, hb]
    exact .inr ⟨b, off, rfl, Nat.lt_of_lt_of_le hlt hg.size, fun i hi => by rw [hcell, hcell]; exact hc i hi⟩
theorem SampAt.nil (w : World) : SampAt w none 0 0 [] := ⟨rfl, Nat.le_refl _, by omega, by simp [All64], .inl rfl⟩
theorem slice_tail (b off len cap : Nat) (h1 : 1 ≤ len) (h2 : len ≤ cap) : ∃ off', (1 < len → off' = off + 2) ∧
    ∀ W : World, (Instr.slice 52 (.slice (some ⟨b, off, none⟩) len cap) (some (.int .i64 1)) none none).run Tryz.prog W = .ok (.slice (some ⟨b, off', none⟩) (len - 1) (cap - 1)) W := by
  have hs : ∀ W : World, (sizeOf (Tryz.prog.elem 52)).run Tryz.prog W = .ok 2 W := fun W => by kernel_rfl
  refine ⟨if cap = 1 then off else off + 2, fun h => by rw [if_neg (by omega)], fun W => ?_⟩
  rw [run_slice_l W 52 _ _ _ (by kernel_rfl) .i64 1 (by omega) (by omega), hs]
  by_cases hc : cap = 1
  · obtain rfl : len = 1 := by omega
    subst hc
    simp [Result.andThen, sliced]
  · simp only [Result.andThen, sliced]
    rw [if_neg (by simp; omega), if_neg hc]
    simp [Addr.add]
def smpCells (z : List (Int × Int)) : List Value := z.flatMap fun x => [.int .i64 x.1, .int .i64 x.2]
theorem smpCells_length (z : List (Int × Int)) : (smpCells z).length = z.length * 2 := by
  induction z with
  | nil => rfl
  | cons x r ih =>
    have e : smpCells (x :: r) = .int .i64 x.1 :: .int .i64 x.2 :: smpCells r := by simp [smpCells]
    rw [e, List.length_cons, List.length_cons, ih, List.length_cons]; omega
theorem smpCells_snoc (z : List (Int × Int)) (x : Int × Int) : smpCells (z ++ [x]) = smpCells z ++ [.int .i64 x.1, .int .i64 x.2] := by simp [smpCells]
theorem smpCells_get (z : List (Int × Int)) (j : Nat) (h : j < z.length) : (smpCells z)[j * 2]? = some (.int .i64 z[j].1) ∧ (smpCells z)[j * 2 + 1]? = some (.int .i64 z[j].2) := by
  induction z generalizing j with
  | nil => simp at h
  | cons x r ih =>
    have e : smpCells (x :: r) = .int .i64 x.1 :: .int .i64 x.2 :: smpCells r := by simp [smpCells]
    rw [e]
    cases j with
    | zero => simp
    | succ j =>
      have h1 := ih j (by simpa using h)
      rw [show (j + 1) * 2 = j * 2 + 1 + 1 from by omega]
      simpa using h1
theorem smpCells_one (z : List (Int × Int)) : ∀ u ∈ smpCells z, u.oneCell' = true := by
  intro u hu
  simp [smpCells] at hu
  rcases hu with ⟨a, b, _, rfl | rfl⟩ <;> rfl
theorem info_samp : (Tryz.prog.info? 27).map (fun i => (i.zero, i.size, i.bytes)) = some (some (.agg #[.int .i64 0, .int .i64 0]), 2, 16) := by kernel_rfl
theorem owns_samps {W : World} {base : Nat} {v : Value} {z : List (Int × Int)} (hz : All64 z) (hb : z.length ≤ 9223372036854775807) (hown : W.ownsRow base 27 2 v z.length (smpCells z)) :
    ∃ ad cp, v = .slice ad z.length cp ∧ SampAt W ad z.length cp z ∧ (∀ x, ad = some x → x.off = 0 ∧ base ≤ x.block) := by
  rcases hown.2 with ⟨rfl, h0⟩ | ⟨g, cp, cur, rfl, hgb, hgc, hl, _, hsz, htk⟩
  · have : z = [] := List.eq_nil_of_length_eq_zero h0
    subst this
    exact ⟨none, 0, rfl, SampAt.nil W, by simp⟩
  · refine ⟨_, cp, rfl, ⟨rfl, hl, hb, hz, .inr ⟨g, 0, rfl, heap_lt hgc, fun i hi => ?_⟩⟩, by intro x hx; cases hx; exact ⟨rfl, hgb⟩⟩
    obtain ⟨h1, h2⟩ := smpCells_get z i hi
    rw [← htk, List.getElem?_take, if_pos (by omega), Array.getElem?_toList] at h1 h2
    rw [cell_of hgc, cell_of hgc, Nat.zero_add]
    exact ⟨h1, h2⟩
theorem size_samp (W : World) : (sizeOf (Tryz.prog.elem 52)).run Tryz.prog W = .ok 2 W := by kernel_rfl
theorem samp_from {w : World} {a : Option Addr} {len cap : Nat} {z : List (Int × Int)} (h : SampAt w a len cap z) (k : Nat) (hk : k ≤ len) :
    ∃ a', (∀ W : World, (Instr.slice 52 (.slice a len cap) (some (.int .i64 (k : Int))) none none).run Tryz.prog W = .ok (.slice a' (len - k) (cap - k)) W) ∧ SampAt w a' (len - k) (cap - k) (z.drop k) := by
  obtain ⟨h1, h2, h3, h4, h5⟩ := h
  refine ⟨if cap = k then a else a.map (·.add (k * 2)), fun W => ?_, ⟨by simp; omega, by omega, by omega, all64_drop h4 k, ?_⟩⟩
  · rw [run_slice_l W 52 _ _ _ (by kernel_rfl) .i64 (k : Int) (by omega) (by omega), size_samp]
    simp [Result.andThen, sliced]
  · by_cases hz : len - k = 0
    · exact .inl hz
    · rcases h5 with h0 | ⟨b, off, rfl, hb, hc⟩
      · omega
      · rw [if_neg (by omega)]
        refine .inr ⟨b, off + k * 2, by simp [Addr.add], hb, fun i hi => ?_⟩
        simp at hi
        have := hc (k + i) (by omega)
        simp only [List.getElem_drop]
        rw [show off + k * 2 + i * 2 = off + (k + i) * 2 from by omega]
        exact this
theorem samp_to {w : World} {a : Option Addr} {len cap : Nat} {z : List (Int × Int)} (h : SampAt w a len cap z) (k : Nat) (hk : k ≤ len) :
    ∃ a', (∀ W : World, (Instr.slice 52 (.slice a len cap) none (some (.int .i64 (k : Int))) none).run Tryz.prog W = .ok (.slice a' k cap) W) ∧ SampAt w a' k cap (z.take k) := by
  obtain ⟨h1, h2, h3, h4, h5⟩ := h
  refine ⟨if cap = 0 then a else a.map (·.add (0 * 2)), fun W => ?_, ⟨by simp; omega, by omega, by omega, all64_take h4 k, ?_⟩⟩
  · rw [run_slice_h W 52 _ _ _ (by kernel_rfl) .i64 (k : Int) (by omega) (by omega), size_samp]
    simp [Result.andThen, sliced]
  · by_cases hz : k = 0
    · exact .inl hz
    · rcases h5 with h0 | ⟨b, off, rfl, hb, hc⟩
      · omega
      · rw [if_neg (by omega)]
        refine .inr ⟨b, off, by simp [Addr.add], hb, fun i hi => ?_⟩
        simp at hi
        simp only [List.getElem_take]
        exact hc i (by omega)
theorem two_cells (W : World) (x y : Value) (t : TypeId) : ∀ j u, [x, y][j]? = some u → (W.alloc (.cells #[x, y] t)).cell? ((⟨W.heap.size, 0, none⟩ : Addr).add j) = some u := by
  intro j u hj
  match j, hj with
  | 0, hj => simp at hj; subst hj; rw [show ((⟨W.heap.size, 0, none⟩ : Addr).add 0) = ⟨W.heap.size, 0, none⟩ from rfl, cell_of (heap_new W _)]; rfl
  | 1, hj => simp at hj; subst hj; rw [show ((⟨W.heap.size, 0, none⟩ : Addr).add 1) = ⟨W.heap.size, 1, none⟩ from rfl, cell_of (heap_new W _)]; rfl
def lenV : Value → Nat
  | .slice _ n _ => n
  | _ => 0
theorem owns_sl {W : World} {base : Nat} {v : Value} {e : TypeId} {k n : Nat} {cs : List Value} (hown : W.ownsRow base e k v n cs) : ∃ ad cp, v = .slice ad n cp := by
  rcases hown.2 with ⟨rfl, rfl⟩ | ⟨g, cp, cur, rfl, _⟩
  · exact ⟨none, 0, rfl⟩
  · exact ⟨_, cp, rfl⟩
open Go.RowKit
def NoSamp (w : World) (r : Nat) : Prop := ∀ (cs : Array Value) (f : Nat × Nat), w.heap[r]? ≠ some (.cells cs 27 f)
theorem noSamp_of {w : World} {b : Nat} {c : Array Value} {t : TypeId} {f : Nat × Nat} (h : w.heap[b]? = some (.cells c t f)) (ht : t ≠ 27) : NoSamp w b := by
  intro c' f' h'
  rw [h] at h'
  simp at h'
  exact ht h'.2.1
def Lst (w : World) (a : Option Addr) (len cap : Nat) (z : List (Int × Int)) : Prop :=
  SampAt w a len cap z ∧ (len = 0 ∨ ∃ x cs f, a = some x ∧ w.heap[x.block]? = some (.cells cs 27 f))
theorem Lst.nil (w : World) : Lst w none 0 0 [] := ⟨SampAt.nil w, .inl rfl⟩
theorem Lst.len {w : World} {a : Option Addr} {len cap : Nat} {z : List (Int × Int)} (h : Lst w a len cap z) : z.length = len := h.1.1
theorem Lst.all64 {w : World} {a : Option Addr} {len cap : Nat} {z : List (Int × Int)} (h : Lst w a len cap z) : All64 z := h.1.2.2.2.1
theorem Lst.keep {w w' : World} {a : Option Addr} {len cap : Nat} {z : List (Int × Int)} {row : Option Nat} (h : Lst w a len cap z) (g : w.grownBy w' row) (hr : ∀ r, row = some r → NoSamp w r) : Lst w' a len cap z := by
  obtain ⟨h1, h2⟩ := h
  rcases h2 with h0 | ⟨x, cs, f, rfl, hx⟩
  · refine ⟨?_, .inl h0⟩
    obtain ⟨a1, a2, a3, a4, _⟩ := h1
    exact ⟨a1, a2, a3, a4, .inl h0⟩
  · have hne : some x.block ≠ row := fun e => hr x.block e.symm cs f hx
    exact ⟨h1.keep_gb g (fun y hy => by cases hy; exact hne), .inr ⟨x, cs, f, rfl, by rw [g.block _ (heap_lt hx) hne]; exact hx⟩⟩
theorem Lst.keepN {w w' : World} {a : Option Addr} {len cap : Nat} {z : List (Int × Int)} (h : Lst w a len cap z) (g : w.grownBy w' none) : Lst w' a len cap z := h.keep g (by simp)
theorem Lst.keepB {w w' : World} {a : Option Addr} {len cap : Nat} {z : List (Int × Int)} (h : Lst w a len cap z) (g : Below w.heap.size w w') : Lst w' a len cap z := h.keepN (gb_below g)
def CAt (ty : TypeId) (w : World) (b : Nat) (sz : Int) (z : List (Int × Int)) : Prop :=
  ∃ a cap, w.heap[b]? = some (.cells #[.int .i64 sz, .slice a z.length cap] ty (0, 0)) ∧ Lst w a z.length cap z
theorem CAt.lt {ty : TypeId} {w : World} {b : Nat} {sz : Int} {z : List (Int × Int)} (h : CAt ty w b sz z) : b < w.heap.size := by
  obtain ⟨a, cap, hc, _⟩ := h; exact heap_lt hc
theorem CAt.no {ty : TypeId} {w : World} {b : Nat} {sz : Int} {z : List (Int × Int)} (h : CAt ty w b sz z) (ht : ty ≠ 27) : NoSamp w b := by
  obtain ⟨a, cap, hc, _⟩ := h; exact noSamp_of hc ht
theorem CAt.all64 {ty : TypeId} {w : World} {b : Nat} {sz : Int} {z : List (Int × Int)} (h : CAt ty w b sz z) : All64 z := by
  obtain ⟨a, cap, _, hl⟩ := h; exact hl.all64
theorem CAt.keep {ty : TypeId} {w w' : World} {b r : Nat} {sz : Int} {z : List (Int × Int)} (h : CAt ty w b sz z) (g : w.grownBy w' (some r)) (hne : b ≠ r) (hr : NoSamp w r) : CAt ty w' b sz z := by
  obtain ⟨a, cap, hc, hl⟩ := h
  exact ⟨a, cap, by rw [g.block b (heap_lt hc) (by simp; exact hne)]; exact hc, hl.keep g (by intro s e; cases e; exact hr)⟩
theorem CAt.keepN {ty : TypeId} {w w' : World} {b : Nat} {sz : Int} {z : List (Int × Int)} (h : CAt ty w b sz z) (g : w.grownBy w' none) : CAt ty w' b sz z := by
  obtain ⟨a, cap, hc, hl⟩ := h
  exact ⟨a, cap, by rw [g.block b (heap_lt hc) (by simp)]; exact hc, hl.keepN g⟩
theorem CAt.keepB {ty : TypeId} {w w' : World} {b : Nat} {sz : Int} {z : List (Int × Int)} (h : CAt ty w b sz z) (g : Below w.heap.size w w') : CAt ty w' b sz z := h.keepN (gb_below g)
theorem CAt.set {ty : TypeId} {w : World} {b : Nat} {sz : Int} {v : Value} {a : Option Addr} {cap : Nat} {z : List (Int × Int)} (hc : w.heap[b]? = some (.cells #[.int .i64 sz, v] ty (0, 0))) (hl : Lst w a z.length cap z) (ht : ty ≠ 27) :
    CAt ty (w.setCell ⟨b, 1, none⟩ (.slice a z.length cap)) b sz z :=
  ⟨a, cap, by rw [heap_set hc]; rfl, hl.keep (row := some b) (gb_set (gb_refl _ _) _ _) (by intro r e; cases e; exact noSamp_of hc ht)⟩
theorem CAt.new (ty : TypeId) (w : World) (sz : Int) (a : Option Addr) (cap : Nat) (z : List (Int × Int)) (hl : Lst w a z.length cap z) :
    CAt ty (w.alloc (.cells #[.int .i64 sz, .slice a z.length cap] ty)) w.heap.size sz z :=
  ⟨a, cap, heap_new w _, hl.keepN (World.grownBy_alloc w _ none)⟩
theorem lst_from {w : World} {a : Option Addr} {len cap : Nat} {z : List (Int × Int)} (h : Lst w a len cap z) (k : Nat) (hk : k ≤ len) :
    ∃ a', (∀ W : World, (Instr.slice 52 (.slice a len cap) (some (.int .i64 (k : Int))) none none).run Tryz.prog W = .ok (.slice a' (len - k) (cap - k)) W) ∧ Lst w a' (len - k) (cap - k) (z.drop k) := by
  obtain ⟨⟨h1, h2, h3, h4, h5⟩, h6⟩ := h
  refine ⟨if cap = k then a else a.map (·.add (k * 2)), fun W => ?_, ⟨⟨by simp; omega, by omega, by omega, all64_drop h4 k, ?_⟩, ?_⟩⟩
  · rw [run_slice_l W 52 _ _ _ (by kernel_rfl) .i64 (k : Int) (by omega) (by omega), size_samp]
    simp [Result.andThen, sliced]
  · by_cases hz : len - k = 0
    · exact .inl hz
    · rcases h5 with h0 | ⟨b, off, rfl, hb, hc⟩
      · omega
      · rw [if_neg (by omega)]
        refine .inr ⟨b, off + k * 2, by simp [Addr.add], hb, fun i hi => ?_⟩
        simp at hi
        have := hc (k + i) (by omega)
        simp only [List.getElem_drop]
        rw [show off + k * 2 + i * 2 = off + (k + i) * 2 from by omega]
        exact this
  · by_cases hz : len - k = 0
    · exact .inl hz
    · rcases h6 with h0 | ⟨x, cs, f, rfl, hx⟩
      · omega
      · rw [if_neg (by omega)]
        refine .inr ⟨x.add (k * 2), cs, f, by simp, ?_⟩
        rw [show (x.add (k * 2)).block = x.block from by unfold Addr.add; split <;> rfl]; exact hx
theorem lst_to {w : World} {a : Option Addr} {len cap : Nat} {z : List (Int × Int)} (h : Lst w a len cap z) (k : Nat) (hk : k ≤ len) :
    ∃ a', (∀ W : World, (Instr.slice 52 (.slice a len cap) none (some (.int .i64 (k : Int))) none).run Tryz.prog W = .ok (.slice a' k cap) W) ∧ Lst w a' k cap (z.take k) := by
  obtain ⟨⟨h1, h2, h3, h4, h5⟩, h6⟩ := h
  refine ⟨if cap = 0 then a else a.map (·.add (0 * 2)), fun W => ?_, ⟨⟨by simp; omega, by omega, by omega, all64_take h4 k, ?_⟩, ?_⟩⟩
  · rw [run_slice_h W 52 _ _ _ (by kernel_rfl) .i64 (k : Int) (by omega) (by omega), size_samp]
    simp [Result.andThen, sliced]
  · by_cases hz : k = 0
    · exact .inl hz
    · rcases h5 with h0 | ⟨b, off, rfl, hb, hc⟩
      · omega
      · rw [if_neg (by omega)]
        refine .inr ⟨b, off, by simp [Addr.add], hb, fun i hi => ?_⟩
        simp at hi
        simp only [List.getElem_take]
        exact hc i (by omega)
  · by_cases hz : k = 0
    · exact .inl hz
    · rcases h6 with h0 | ⟨x, cs, f, rfl, hx⟩
      · omega
      · rw [if_neg (by omega)]
        refine .inr ⟨x.add (0 * 2), cs, f, by simp, ?_⟩
        rw [show (x.add (0 * 2)).block = x.block from by unfold Addr.add; split <;> rfl]; exact hx
end Go.Proofs.YtmifpfojhlmbkaaGreat
