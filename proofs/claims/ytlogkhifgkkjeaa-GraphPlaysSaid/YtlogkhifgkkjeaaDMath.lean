/-
  Plain facts on the code of a number, and on samples as bits: no program in sight.
  code u: the code of a number; gets l: the number with whose code bits begin; encTo z j: the bits of the first j samples; decS n l: n samples out of bits.
-/
import Derived.Test.YtlogkhifgkkjeaaMath
import Derived.Test.YtlogkhifgkkjeaaBase
import Derived.RowKit
namespace Go.Proofs.Ytlogkhifgkkjeaa
open Go.RowKit
set_option linter.unusedSimpArgs false
set_option linter.unusedVariables false

def wid : Nat → Nat
  | 0 => 0
  | 1 => 7
  | 2 => 12
  | 3 => 24
  | _ => 64
def headN (k : Nat) : Nat := min (k + 1) 4
def onesN (u : Nat) : Nat := if u = 0 then 0 else if u < 128 then 1 else if u < 4096 then 2 else if u < 16777216 then 3 else 4
def pre (k : Nat) : List Bool := List.replicate k true ++ List.replicate (headN k - k) false
def code (u : Nat) : List Bool := pre (onesN u) ++ bitsOf u (wid (onesN u))
def csize (u : Nat) : Nat := headN (onesN u) + wid (onesN u)

theorem onesN_le (u : Nat) : onesN u ≤ 4 := by unfold onesN; (repeat' split) <;> omega
theorem pre_length (k : Nat) (h : k ≤ 4) : (pre k).length = headN k := by simp [pre, headN]; omega
theorem code_length (u : Nat) : (code u).length = csize u := by
  rw [code, List.length_append, pre_length _ (onesN_le u), bitsOf_length]; rfl
theorem le4 {k : Nat} (h : k ≤ 4) : k = 0 ∨ k = 1 ∨ k = 2 ∨ k = 3 ∨ k = 4 := by omega
theorem csize_le (u : Nat) : 1 ≤ csize u ∧ csize u ≤ 68 := by
  unfold csize
  rcases le4 (onesN_le u) with h | h | h | h | h <;> rw [h] <;> decide
theorem csize_inj {j k : Nat} (hj : j ≤ 4) (hk : k ≤ 4) (h : headN j + wid j = headN k + wid k) : j = k := by
  rcases le4 hj with rfl | rfl | rfl | rfl | rfl <;> rcases le4 hk with rfl | rfl | rfl | rfl | rfl <;> first | rfl | (exact absurd h (by decide))
theorem onesN_fits (u : Nat) (h : u < 18446744073709551616) : u < 2 ^ wid (onesN u) := by
  unfold onesN
  (repeat' split) <;> simp only [wid] <;> omega
theorem onesN_mono (a b : Nat) (h : a ≤ b) : onesN a ≤ onesN b := by
  unfold onesN
  (repeat' split) <;> omega
theorem csize_mono (a b : Nat) (h : a ≤ b) : csize a ≤ csize b := by
  have h1 := onesN_mono a b h
  have h2 := onesN_le a
  have h3 := onesN_le b
  unfold csize
  rcases le4 h2 with e | e | e | e | e <;> rcases le4 h3 with f | f | f | f | f <;> rw [e, f] at h1 ⊢ <;> revert h1 <;> decide
/-- A number's shift by a width is nothing just if it has no more ones than that width. -/
theorem onesN_shift (u k : Nat) (hu : u < 18446744073709551616) (hk : k ≤ 4) : u / 2 ^ wid k = 0 ↔ onesN u ≤ k := by
  rw [Nat.div_eq_zero_iff]
  have : ∀ m : Nat, 2 ^ m ≠ 0 := fun m => Nat.ne_of_gt (Nat.two_pow_pos m)
  simp only [this, false_or]
  unfold onesN
  rcases le4 hk with rfl | rfl | rfl | rfl | rfl <;> simp only [wid] <;> (repeat' split) <;> omega

/-- How many ones bits begin with, four at most. -/
def leadK (l : List Bool) : Nat := ((l.take 4).takeWhile id).length
theorem leadK_le (l : List Bool) : leadK l ≤ 4 ∧ leadK l ≤ l.length := by
  have h1 : leadK l ≤ (l.take 4).length := (List.takeWhile_sublist (p := id) (l := l.take 4)).length_le
  simp at h1
  omega
theorem leadK_nil : leadK [] = 0 := rfl
theorem takeWhile_app (k : Nat) (r : List Bool) : (List.replicate k true ++ r).takeWhile id = List.replicate k true ++ r.takeWhile id := by
  induction k with
  | zero => rfl
  | succ k ih => simp only [List.replicate_succ, List.cons_append, List.takeWhile_cons, id, if_true, ih]
theorem leadK_pre (k : Nat) (h : k ≤ 4) (r : List Bool) : leadK (pre k ++ r) = k := by
  rcases le4 h with rfl | rfl | rfl | rfl | rfl <;> simp [leadK, pre, headN, List.replicate, List.takeWhile]
/-- The first ones are true; behind them, if there are not four, stands a false. -/
theorem leadK_true (l : List Bool) (i : Nat) (h : i < leadK l) : l.getD i false = true := by
  have h1 : ∀ (m : List Bool) (i : Nat), i < (m.takeWhile id).length → m.getD i false = true := by
    intro m
    induction m with
    | nil => intro i h; simp at h
    | cons x r ih =>
      intro i h
      cases x with
      | false => simp [List.takeWhile_cons] at h
      | true =>
        cases i with
        | zero => rfl
        | succ i =>
          simp [List.takeWhile_cons] at h
          simpa using ih i h
  have := h1 (l.take 4) i h
  have h4 := (leadK_le l).1
  rw [List.getD_eq_getElem?_getD, List.getElem?_take, if_pos (by omega)] at this
  rw [List.getD_eq_getElem?_getD]; exact this
theorem leadK_false (l : List Bool) (h : leadK l < 4) : l.getD (leadK l) false = false := by
  have h1 : ∀ (m : List Bool), m.getD (m.takeWhile id).length false = false := by
    intro m
    induction m with
    | nil => rfl
    | cons x r ih =>
      cases x with
      | false => rfl
      | true => simp [List.takeWhile_cons]; simpa using ih
  have := h1 (l.take 4)
  rw [show ((l.take 4).takeWhile id).length = leadK l from rfl, List.getD_eq_getElem?_getD, List.getElem?_take, if_pos h] at this
  rw [List.getD_eq_getElem?_getD]; exact this
/-- Bits that begin with k ones, and a false if k is below 4, have k. -/
theorem leadK_is (l : List Bool) (k : Nat) (hk : k ≤ 4) (h1 : ∀ i, i < k → l.getD i false = true) (h2 : k < 4 → l.getD k false = false) : leadK l = k := by
  by_cases h : leadK l < k
  · have := leadK_false l (by omega)
    rw [h1 _ h] at this
    cases this
  · by_cases h' : k < leadK l
    · have := leadK_true l k h'
      rw [h2 (by have := (leadK_le l).1; omega)] at this
      cases this
    · omega
theorem pre_of (l : List Bool) (h : leadK l < 4 → leadK l < l.length) : l = pre (leadK l) ++ l.drop (headN (leadK l)) := by
  have h4 := leadK_le l
  have hh : headN (leadK l) ≤ l.length := by unfold headN; omega
  conv => lhs; rw [← List.take_append_drop (headN (leadK l)) l]
  congr 1
  apply List.ext_getElem
  · rw [pre_length _ h4.1, List.length_take]; omega
  · intro i h1 h2
    rw [pre_length _ h4.1] at h2
    rw [List.getElem_take]
    by_cases hi : i < leadK l
    · have := leadK_true l i hi
      rw [List.getD_eq_getElem?_getD, List.getElem?_eq_getElem (by omega), Option.getD_some] at this
      rw [this]
      simp [pre, List.getElem_append, hi]
    · have hi' : i = leadK l := by unfold headN at h2; omega
      subst hi'
      have h5 : leadK l < 4 := by unfold headN at h2; omega
      have := leadK_false l h5
      rw [List.getD_eq_getElem?_getD, List.getElem?_eq_getElem (by omega), Option.getD_some] at this
      rw [this]
      simp [pre, List.getElem_append]

/-- The number with whose code bits begin, how many bits that has, and 0; else what is wrong (3: short, 4: form). -/
def gets (l : List Bool) : Nat × Nat × Int :=
  if leadK l < 4 ∧ leadK l = l.length then (0, 0, 3)
  else if l.length < headN (leadK l) + wid (leadK l) then (0, 0, 3)
  else if onesN (num ((l.drop (headN (leadK l))).take (wid (leadK l)))) = leadK l then (num ((l.drop (headN (leadK l))).take (wid (leadK l))), headN (leadK l) + wid (leadK l), 0)
  else (0, 0, 4)

theorem gets_code (u : Nat) (hu : u < 18446744073709551616) (r : List Bool) : gets (code u ++ r) = (u, csize u, 0) := by
  have h4 := onesN_le u
  have hl : leadK (code u ++ r) = onesN u := by rw [code, List.append_assoc]; exact leadK_pre _ h4 _
  have hlen : (code u ++ r).length = csize u + r.length := by rw [List.length_append, code_length]
  have hc : csize u = headN (onesN u) + wid (onesN u) := rfl
  have hd : (code u ++ r).drop (headN (onesN u)) = bitsOf u (wid (onesN u)) ++ r := by
    rw [code, List.append_assoc, ← pre_length _ h4, List.drop_left]
  have hn : num (((code u ++ r).drop (headN (onesN u))).take (wid (onesN u))) = u := by
    rw [hd, List.take_append_of_le_length (by rw [bitsOf_length]; exact Nat.le_refl _), List.take_of_length_le (by rw [bitsOf_length]; exact Nat.le_refl _)]
    exact num_bitsOf_lt (onesN_fits u hu)
  have hh : onesN u < 4 → onesN u < headN (onesN u) := by unfold headN; omega
  unfold gets
  rw [hl, hn, hlen, if_neg (by omega), if_neg (by omega), if_pos rfl, hc]

theorem wid_le (k : Nat) : wid k ≤ 64 := by unfold wid; split <;> omega
theorem gets_ok {l : List Bool} {u n : Nat} (h : gets l = (u, n, 0)) : u < 18446744073709551616 ∧ n = csize u ∧ n ≤ l.length ∧ l = code u ++ l.drop n := by
  unfold gets at h
  split at h
  · simp at h
  · rename_i h1
    split at h
    · simp at h
    · rename_i h2
      split at h
      · rename_i h3
        simp only [Prod.mk.injEq, and_true] at h
        obtain ⟨hu, hn⟩ := h
        rw [hu] at h3
        have hl := leadK_le l
        have hsz : ((l.drop (headN (leadK l))).take (wid (leadK l))).length = wid (leadK l) := by simp; omega
        have hub : u < 2 ^ wid (leadK l) := by rw [← hu]; have := num_lt ((l.drop (headN (leadK l))).take (wid (leadK l))); rwa [hsz] at this
        refine ⟨Nat.lt_of_lt_of_le hub (Nat.pow_le_pow_right (by omega) (wid_le _)), ?_, by omega, ?_⟩
        · unfold csize; rw [h3]; exact hn.symm
        · have hp := pre_of l (by omega)
          have hb : bitsOf u (wid (leadK l)) = (l.drop (headN (leadK l))).take (wid (leadK l)) := by
            have := bitsOf_num ((l.drop (headN (leadK l))).take (wid (leadK l)))
            rw [hsz, hu] at this; exact this
          conv => lhs; rw [hp]
          rw [code, h3, hb, List.append_assoc, ← hn, ← List.drop_drop, List.take_append_drop]
      · simp at h
theorem gets_err {l : List Bool} {u n : Nat} {e : Int} (h : gets l = (u, n, e)) : (e = 0) ∨ (u = 0 ∧ n = 0 ∧ (e = 3 ∨ e = 4)) := by
  unfold gets at h
  repeat' split at h
  all_goals (simp only [Prod.mk.injEq] at h; obtain ⟨rfl, rfl, rfl⟩ := h)
  all_goals simp
theorem gets_nil : gets [] = (0, 0, 3) := rfl

/-! Numbers modulo 2^64. -/
def u64 (n : Int) : Nat := (n % 18446744073709551616).toNat
def zigZ (n : Int) : Nat := (if 0 ≤ n then 2 * n else -2 * n - 1).toNat
def zagZ (u : Nat) : Int := if u % 2 = 0 then ((u / 2 : Nat) : Int) else -((u / 2 : Nat) : Int) - 1
theorem u64_lt (n : Int) : u64 n < 18446744073709551616 := by unfold u64; omega
theorem wrap_u64 (n : Int) (h : in64 n) : wrap64 (u64 n : Int) = n := by unfold in64 at h; unfold wrap64 u64; omega
theorem u64_wrap (n : Nat) (h : n < 18446744073709551616) : u64 (wrap64 (n : Int)) = n := by unfold wrap64 u64; omega
theorem zigZ_lt (n : Int) (h : in64 n) : zigZ n < 18446744073709551616 := by unfold in64 at h; unfold zigZ; split <;> omega
theorem zag_zigZ (n : Int) : zagZ (zigZ n) = n := by unfold zagZ zigZ; split <;> split <;> omega
theorem zig_zagZ (u : Nat) : zigZ (zagZ u) = u := by unfold zagZ zigZ; split <;> split <;> omega
theorem zagZ_in (u : Nat) (h : u < 18446744073709551616) : in64 (zagZ u) := by unfold in64 zagZ; split <;> omega
theorem wrap_back (a b : Int) (h : in64 b) : wrap64 (a + wrap64 (b - a)) = b := by unfold in64 at h; unfold wrap64; omega
theorem wrap_forth (a d : Int) (h : in64 d) : wrap64 (wrap64 (a + d) - a) = d := by unfold in64 at h; unfold wrap64; omega

/-! Samples as bits. -/
def tOf (z : List (Int × Int)) (i : Nat) : Int := (z.getD i (0, 0)).1
def vOf (z : List (Int × Int)) (i : Nat) : Int := (z.getD i (0, 0)).2
def stepOf (z : List (Int × Int)) : Nat → Int
  | 0 => 0
  | i + 1 => wrap64 (tOf z (i + 1) - tOf z i)
def tNum (z : List (Int × Int)) (i : Nat) : Nat := zigZ (wrap64 (stepOf z (i + 1) - stepOf z i))
def vNum (z : List (Int × Int)) (i : Nat) : Nat := zigZ (wrap64 (vOf z (i + 1) - vOf z i))
def firstB (b : Nat) (x : Int × Int) : List Bool := bitsOf (u64 x.1) b ++ bitsOf (u64 x.2) b
def piece (z : List (Int × Int)) : Nat → List Bool
  | 0 => firstB 64 (tOf z 0, vOf z 0)
  | i + 1 => code (tNum z i) ++ code (vNum z i)
def encTo (z : List (Int × Int)) : Nat → List Bool
  | 0 => []
  | j + 1 => encTo z j ++ piece z j
def All64 (z : List (Int × Int)) : Prop := ∀ x ∈ z, in64 x.1 ∧ in64 x.2
theorem all64_take {z : List (Int × Int)} (h : All64 z) (k : Nat) : All64 (z.take k) := fun x hx => h x (List.mem_of_mem_take hx)
theorem all64_drop {z : List (Int × Int)} (h : All64 z) (k : Nat) : All64 (z.drop k) := fun x hx => h x (List.mem_of_mem_drop hx)

theorem tNum_lt (z : List (Int × Int)) (i : Nat) : tNum z i < 18446744073709551616 := zigZ_lt _ (wrap64_in64 _)
theorem vNum_lt (z : List (Int × Int)) (i : Nat) : vNum z i < 18446744073709551616 := zigZ_lt _ (wrap64_in64 _)
theorem piece_length (z : List (Int × Int)) (i : Nat) : (piece z i).length = if i = 0 then 128 else csize (tNum z (i - 1)) + csize (vNum z (i - 1)) := by
  cases i with
  | zero => simp [piece, firstB, bitsOf_length]
  | succ i => simp [piece, code_length]
theorem piece_le (z : List (Int × Int)) (i : Nat) : (piece z i).length ≤ 136 := by
  rw [piece_length]
  have h1 := csize_le (tNum z (i - 1))
  have h2 := csize_le (vNum z (i - 1))
  split <;> omega
theorem encTo_le (z : List (Int × Int)) (j : Nat) : (encTo z j).length ≤ 136 * j := by
  induction j with
  | zero => simp [encTo]
  | succ j ih => rw [encTo, List.length_append]; have := piece_le z j; omega
theorem all64_at {z : List (Int × Int)} (h : All64 z) (i : Nat) : in64 (tOf z i) ∧ in64 (vOf z i) := by
  unfold tOf vOf
  rw [List.getD_eq_getElem?_getD]
  by_cases hi : i < z.length
  · rw [List.getElem?_eq_getElem hi]; exact h _ (List.getElem_mem hi)
  · rw [List.getElem?_eq_none (by omega)]; simp [in64]
theorem stepOf_in (z : List (Int × Int)) (i : Nat) : in64 (stepOf z i) := by
  cases i with
  | zero => simp [stepOf, in64]
  | succ i => exact wrap64_in64 _
/-- What rows have in common up to a place, their bits have. -/
theorem encTo_congr {a b : List (Int × Int)} (j : Nat) (h : ∀ i, i < j → a.getD i (0, 0) = b.getD i (0, 0)) : encTo a j = encTo b j := by
  have hst : ∀ i, i < j → stepOf a i = stepOf b i := by
    intro i hi
    cases i with
    | zero => rfl
    | succ i => simp only [stepOf, tOf]; rw [h (i + 1) hi, h i (by omega)]
  have hp : ∀ i, i < j → piece a i = piece b i := by
    intro i hi
    cases i with
    | zero => simp only [piece, tOf, vOf]; rw [h 0 hi]
    | succ i => simp only [piece, tNum, vNum, vOf]; rw [hst (i + 1) hi, hst i (by omega), h (i + 1) hi, h i (by omega)]
  clear h hst
  induction j with
  | zero => rfl
  | succ j ih => rw [encTo, encTo, ih (fun i hi => hp i (by omega)), hp j (by omega)]

theorem num_front (a n : Nat) (h : a < 2 ^ n) (r : List Bool) : num ((bitsOf a n ++ r).take n) = a ∧ (bitsOf a n ++ r).drop n = r := by
  have hl := bitsOf_length a n
  constructor
  · rw [List.take_append_of_le_length (by omega), List.take_of_length_le (by omega)]; exact num_bitsOf_lt h
  · rw [List.drop_append_of_le_length (by omega), List.drop_of_length_le (by omega), List.nil_append]
theorem bits_split (l : List Bool) (n : Nat) (h : n ≤ l.length) : bitsOf (num (l.take n)) n ++ l.drop n = l := by
  have hl : (l.take n).length = n := by simp; omega
  have b := bitsOf_num (l.take n)
  rw [hl] at b
  rw [b, List.take_append_drop]

/-- The next sample, told by two numbers. -/
def nextS (x : Int × Int) (step : Int) (a b : Nat) : Int × Int := (wrap64 (x.1 + wrap64 (step + zagZ a)), wrap64 (x.2 + zagZ b))
def decOne (b : Nat) (l : List Bool) : Except Int (List (Int × Int) × Int × List Bool) :=
  if l.length < b + b then .error 3 else .ok ([(wrap64 (num (l.take b) : Int), wrap64 (num ((l.drop b).take b) : Int))], 0, l.drop (b + b))
theorem decOne_enc (b : Nat) (hb : 18446744073709551616 = 2 ^ b) (x : Int × Int) (h1 : in64 x.1) (h2 : in64 x.2) (rest : List Bool) : decOne b (firstB b x ++ rest) = .ok ([x], 0, rest) := by
  have f1 := num_front (u64 x.1) b (by rw [← hb]; exact u64_lt _) (bitsOf (u64 x.2) b ++ rest)
  have f2 := num_front (u64 x.2) b (by rw [← hb]; exact u64_lt _) rest
  have hl : (firstB b x ++ rest).length = b + b + rest.length := by rw [firstB, List.length_append, List.length_append, bitsOf_length, bitsOf_length]
  rw [decOne, if_neg (by omega), firstB, List.append_assoc, f1.1, ← List.drop_drop, f1.2, f2.1, f2.2, wrap_u64 _ h1, wrap_u64 _ h2]
theorem enc_decOne (b : Nat) (hb : 18446744073709551616 = 2 ^ b) (l : List Bool) (out : List (Int × Int)) (step : Int) (rest : List Bool) (h : decOne b l = .ok (out, step, rest)) :
    ∃ x, out = [x] ∧ in64 x.1 ∧ in64 x.2 ∧ step = 0 ∧ l = firstB b x ++ rest := by
  rw [decOne] at h
  split at h
  · cases h
  · rename_i hl
    simp only [Except.ok.injEq, Prod.mk.injEq] at h
    obtain ⟨rfl, rfl, rfl⟩ := h
    have n1 := num_lt (l.take b)
    have n2 := num_lt ((l.drop b).take b)
    have l1 : (l.take b).length = b := by simp; omega
    have l2 : ((l.drop b).take b).length = b := by simp; omega
    rw [l1, ← hb] at n1
    rw [l2, ← hb] at n2
    refine ⟨_, rfl, wrap64_in64 _, wrap64_in64 _, rfl, ?_⟩
    simp only [firstB]
    rw [u64_wrap _ n1, u64_wrap _ n2, ← List.drop_drop, List.append_assoc, bits_split _ b (by simp; omega), bits_split _ b (by omega)]
theorem p64 : (18446744073709551616 : Nat) = 2 ^ 64 := by decide
/-- n samples out of bits: these, the last step, and what bits are left; or what is wrong. -/
def decS : Nat → List Bool → Except Int (List (Int × Int) × Int × List Bool)
  | 0, l => .ok ([], 0, l)
  | 1, l => decOne 64 l
  | n + 2, l => match decS (n + 1) l with
    | .error e => .error e
    | .ok (out, step, rest) =>
      if (gets rest).2.2 ≠ 0 then .error (gets rest).2.2
      else if (gets (rest.drop (gets rest).2.1)).2.2 ≠ 0 then .error (gets (rest.drop (gets rest).2.1)).2.2
      else .ok (out ++ [nextS (out.getD n (0, 0)) step (gets rest).1 (gets (rest.drop (gets rest).2.1)).1], wrap64 (step + zagZ (gets rest).1), rest.drop ((gets rest).2.1 + (gets (rest.drop (gets rest).2.1)).2.1))
def decAll (n : Nat) (l : List Bool) : Except Int (List (Int × Int)) :=
  match decS n l with
  | .error e => .error e
  | .ok (out, _, rest) => if rest = [] then .ok out else .error 4

theorem decS_more {n : Nat} {l : List Bool} {out : List (Int × Int)} {step : Int} {rest : List Bool} {a m b k : Nat} (h : decS (n + 1) l = .ok (out, step, rest)) (ha : gets rest = (a, m, 0)) (hb : gets (rest.drop m) = (b, k, 0)) :
    decS (n + 2) l = .ok (out ++ [nextS (out.getD n (0, 0)) step a b], wrap64 (step + zagZ a), rest.drop (m + k)) := by
  rw [decS, h]
  simp only [ha, hb]
  simp
theorem decS_err1 {n : Nat} {l : List Bool} {out : List (Int × Int)} {step : Int} {rest : List Bool} {a m : Nat} {e : Int} (h : decS (n + 1) l = .ok (out, step, rest)) (ha : gets rest = (a, m, e)) (he : e ≠ 0) : decS (n + 2) l = .error e := by
  rw [decS, h]
  simp only [ha]
  simp [he]
theorem decS_err2 {n : Nat} {l : List Bool} {out : List (Int × Int)} {step : Int} {rest : List Bool} {a m b k : Nat} {e : Int} (h : decS (n + 1) l = .ok (out, step, rest)) (ha : gets rest = (a, m, 0)) (hb : gets (rest.drop m) = (b, k, e)) (he : e ≠ 0) : decS (n + 2) l = .error e := by
  rw [decS, h]
  simp only [ha, hb]
  simp [he]
theorem decS_errs {n : Nat} {l : List Bool} {e : Int} (h : decS n l = .error e) (m : Nat) : decS (n + m) l = .error e := by
  induction m with
  | zero => exact h
  | succ m ih =>
    have hn : n + m ≠ 0 := by intro h0; rw [h0] at ih; cases ih
    obtain ⟨q, hq⟩ : ∃ q, n + m = q + 1 := ⟨n + m - 1, by omega⟩
    rw [show n + (m + 1) = q + 2 from by omega, decS]
    rw [hq] at ih
    rw [ih]
theorem decAll_err {n m : Nat} {l : List Bool} {e : Int} (h : decS n l = .error e) (hm : n ≤ m) : decAll m l = .error e := by
  have := decS_errs h (m - n)
  rw [show n + (m - n) = m from by omega] at this
  rw [decAll, this]

/-- What is encoded is decoded as it was. -/
theorem decS_enc (z : List (Int × Int)) (hz : All64 z) (j : Nat) (hj : j ≤ z.length) (rest : List Bool) : decS j (encTo z j ++ rest) = .ok (z.take j, stepOf z (j - 1), rest) := by
  induction j generalizing rest with
  | zero => rfl
  | succ j ih =>
    cases j with
    | zero =>
      have h64 := all64_at hz 0
      have : z.take 1 = [(tOf z 0, vOf z 0)] := by
        match z, hj with
        | x :: r, _ => simp [tOf, vOf]
      simp only [Nat.zero_add]
      rw [this, show encTo z 1 = firstB 64 (tOf z 0, vOf z 0) from by simp only [encTo, piece, List.nil_append], decS]
      exact decOne_enc 64 p64 _ h64.1 h64.2 rest
    | succ j =>
      have hih := ih (by omega) (piece z (j + 1) ++ rest)
      rw [← List.append_assoc] at hih
      have h64 := all64_at hz (j + 1)
      have ha : gets (piece z (j + 1) ++ rest) = (tNum z j, csize (tNum z j), 0) := by
        rw [piece, List.append_assoc]; exact gets_code _ (tNum_lt z j) _
      have hd : (piece z (j + 1) ++ rest).drop (csize (tNum z j)) = code (vNum z j) ++ rest := by
        rw [piece, List.append_assoc, ← code_length, List.drop_left]
      have hb : gets ((piece z (j + 1) ++ rest).drop (csize (tNum z j))) = (vNum z j, csize (vNum z j), 0) := by
        rw [hd]; exact gets_code _ (vNum_lt z j) _
      have hd2 : (piece z (j + 1) ++ rest).drop (csize (tNum z j) + csize (vNum z j)) = rest := by
        rw [← List.drop_drop, hd, ← code_length, List.drop_left]
      rw [encTo, decS_more hih ha hb, hd2]
      have hst : wrap64 (stepOf z j + zagZ (tNum z j)) = stepOf z (j + 1) := by
        rw [tNum, zag_zigZ, wrap_back _ _ (stepOf_in z (j + 1))]
      have hx : (z.take (j + 1)).getD j (0, 0) = (tOf z j, vOf z j) := by
        rw [List.getD_eq_getElem?_getD, List.getElem?_take, if_pos (by omega)]
        simp [tOf, vOf, List.getD_eq_getElem?_getD]
      have hn : nextS ((z.take (j + 1)).getD j (0, 0)) (stepOf z (j + 1 - 1)) (tNum z j) (vNum z j) = (tOf z (j + 1), vOf z (j + 1)) := by
        rw [hx]
        simp only [nextS, Nat.add_sub_cancel]
        rw [hst, vNum, zag_zigZ, wrap_back _ _ h64.2, stepOf, wrap_back _ _ h64.1]
      rw [hn]
      have ht : z.take (j + 1) ++ [(tOf z (j + 1), vOf z (j + 1))] = z.take (j + 1 + 1) := by
        rw [List.take_succ_eq_append_getElem (i := j + 1) (by omega)]
        congr 2
        simp [tOf, vOf, List.getD_eq_getElem?_getD, List.getElem?_eq_getElem (show j + 1 < z.length by omega)]
      rw [ht]
      simp only [Nat.add_sub_cancel]
      rw [hst]
theorem decAll_enc (z : List (Int × Int)) (hz : All64 z) : decAll z.length (encTo z z.length) = .ok z := by
  have := decS_enc z hz z.length (Nat.le_refl _) []
  rw [List.append_nil] at this
  rw [decAll, this]
  simp

/-- Bits that are decoded are the samples' bits. -/
theorem enc_decS (n : Nat) (l : List Bool) (out : List (Int × Int)) (step : Int) (rest : List Bool) (h : decS n l = .ok (out, step, rest)) :
    out.length = n ∧ All64 out ∧ step = stepOf out (n - 1) ∧ l = encTo out n ++ rest := by
  induction n generalizing out step rest with
  | zero =>
    simp only [decS, Except.ok.injEq, Prod.mk.injEq] at h
    obtain ⟨rfl, rfl, rfl⟩ := h
    exact ⟨rfl, by simp [All64], rfl, rfl⟩
  | succ n ih =>
    cases n with
    | zero =>
      rw [decS] at h
      obtain ⟨x, rfl, h1, h2, rfl, hl⟩ := enc_decOne 64 p64 l out step rest h
      refine ⟨rfl, ?_, rfl, ?_⟩
      · intro y hy
        simp at hy
        subst hy
        exact ⟨h1, h2⟩
      · have e : encTo [x] (0 + 1) = firstB 64 x := by
          rw [encTo, encTo, piece, List.nil_append]; congr 1
        rw [e]; exact hl
    | succ n =>
      rw [decS] at h
      match hd : decS (n + 1) l with
      | .error e => rw [hd] at h; cases h
      | .ok (o, s, r) =>
        obtain ⟨hlen, hall, hs, hl⟩ := ih o s r hd
        rw [hd] at h
        simp only [Nat.add_sub_cancel] at hs
        match ha : gets r with
        | (a, m, ea) =>
          match hb : gets (r.drop m) with
          | (b, k, eb) =>
            simp only [ha, hb] at h
            split at h
            · cases h
            · rename_i he
              simp at he
              subst he
              split at h
              · cases h
              · rename_i he
                simp at he
                subst he
                simp only [Except.ok.injEq, Prod.mk.injEq] at h
                obtain ⟨rfl, rfl, rfl⟩ := h
                obtain ⟨hau, hm, hml, har⟩ := gets_ok ha
                obtain ⟨hbu, hk, hkl, hbr⟩ := gets_ok hb
                have ho : ∀ i, i < n + 1 → (o ++ [nextS (o.getD n (0, 0)) s a b]).getD i (0, 0) = o.getD i (0, 0) := by
                  intro i hi
                  rw [List.getD_eq_getElem?_getD, List.getElem?_append_left (by omega), List.getD_eq_getElem?_getD]
                have hy : (o ++ [nextS (o.getD n (0, 0)) s a b]).getD (n + 1) (0, 0) = nextS (o.getD n (0, 0)) s a b := by
                  rw [List.getD_eq_getElem?_getD, List.getElem?_append_right (by omega)]
                  simp [hlen]
                have hst : stepOf (o ++ [nextS (o.getD n (0, 0)) s a b]) n = stepOf o n := by
                  cases n with
                  | zero => rfl
                  | succ n => simp only [stepOf, tOf]; rw [ho (n + 1) (by omega), ho n (by omega)]
                have hst2 : stepOf (o ++ [nextS (o.getD n (0, 0)) s a b]) (n + 1) = wrap64 (s + zagZ a) := by
                  simp only [stepOf, tOf]
                  rw [hy, ho n (by omega)]
                  exact wrap_forth _ _ (wrap64_in64 _)
                refine ⟨by simp [hlen], ?_, by simp only [Nat.add_sub_cancel]; exact hst2.symm, ?_⟩
                · intro x hx
                  simp at hx
                  rcases hx with hx | rfl
                  · exact hall x hx
                  · exact ⟨wrap64_in64 _, wrap64_in64 _⟩
                · rw [encTo, encTo_congr (n + 1) ho, hl, List.append_assoc]
                  congr 1
                  have ht : tNum (o ++ [nextS (o.getD n (0, 0)) s a b]) n = a := by
                    rw [tNum, hst2, hst, ← hs, wrap_forth _ _ (zagZ_in a hau), zig_zagZ]
                  have hv : vNum (o ++ [nextS (o.getD n (0, 0)) s a b]) n = b := by
                    rw [vNum]
                    simp only [vOf]
                    rw [hy, ho n (by omega)]
                    simp only [nextS]
                    rw [wrap_forth _ _ (zagZ_in b hbu), zig_zagZ]
                  rw [piece, ht, hv, List.append_assoc, ← List.drop_drop]
                  conv => lhs; rw [har, hbr]
theorem enc_decAll (n : Nat) (l : List Bool) (out : List (Int × Int)) (h : decAll n l = .ok out) : out.length = n ∧ All64 out ∧ l = encTo out n := by
  unfold decAll at h
  match hd : decS n l with
  | .error e => rw [hd] at h; cases h
  | .ok (o, s, r) =>
    rw [hd] at h
    simp only at h
    split at h
    · rename_i hr
      simp only [Except.ok.injEq] at h
      subst h hr
      obtain ⟨h1, h2, _, h4⟩ := enc_decS n l o s [] hd
      exact ⟨h1, h2, by rw [List.append_nil] at h4; exact h4⟩
    · cases h

end Go.Proofs.Ytlogkhifgkkjeaa
