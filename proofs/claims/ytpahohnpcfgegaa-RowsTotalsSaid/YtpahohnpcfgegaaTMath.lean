/-
  Plain facts of layer 7: what a query is told of samples; buckets with the empty ones among them.
-/
import Derived.Test.YtpahohnpcfgegaaABuck
namespace Go.Proofs.Ytpahohnpcfgegaa
set_option linter.unusedVariables false
set_option linter.unusedSimpArgs false

/-- What is asked of a range. -/
structure Qry where
  fr : Int
  to : Int
  back : Bool
  cnt : Int
  kd : Int
  sz : Int
  al : Int
  emp : Bool
  tm : List Int
  vals : Bool
  lo : Int
  hi : Int

def rightQ (q : Qry) : Prop := 0 ≤ q.cnt ∧ q.tm.length ≤ 32 ∧ (q.kd = 0 → q.emp = false) ∧ (q.kd ≠ 0 → (1 ≤ q.kd ∧ q.kd ≤ 7) ∧ rightB q.sz q.al)
instance (q : Qry) : Decidable (rightQ q) := inferInstanceAs (Decidable (_ ∧ _))
def inB (lo hi n : Int) : Bool := decide (lo ≤ n) && decide (n ≤ hi)
def passB (q : Qry) (x : Int × Int) : Bool := inB q.fr q.to x.1 && (decide (q.tm.length = 0) || q.tm.contains x.1) && (!q.vals || inB q.lo q.hi x.2)

/-! Empty buckets. -/
/-- How many there are from b on, ahead of e. -/
def cntG (size b e : Int) : Nat := if b < e then ((e - b - 1) / size + 1).toNat else 0
def gapL (size v b : Int) (n : Nat) : List (Int × Int) := (List.range n).map fun i : Nat => (b + (i : Int) * size, v)
theorem gapL_len (size v b : Int) (n : Nat) : (gapL size v b n).length = n := by simp [gapL]
theorem gapL_zero (size v b : Int) : gapL size v b 0 = [] := rfl
theorem gapL_succ (size v b : Int) (n : Nat) : gapL size v b (n + 1) = gapL size v b n ++ [(b + (n : Int) * size, v)] := by
  unfold gapL
  rw [List.range_succ, List.map_append]; rfl
theorem cntG_iff {size b e : Int} (hs : 1 ≤ size) (j : Nat) : j < cntG size b e ↔ b + (j : Int) * size < e := by
  unfold cntG
  have hj0 : 0 ≤ (j : Int) * size := Int.mul_nonneg (by omega) (by omega)
  split
  · rename_i h
    have h1 := Int.le_ediv_iff_mul_le (a := (j : Int)) (b := e - b - 1) (show 0 < size by omega)
    have h2 : 0 ≤ (e - b - 1) / size := Int.ediv_nonneg (by omega) (by omega)
    constructor
    · intro h3
      have := h1.1 (by omega)
      omega
    · intro h3
      have := h1.2 (by omega)
      omega
  · constructor
    · intro h3; omega
    · intro h3; omega

/-- What an empty bucket has, behind one of v, if it is told. -/
def emptyV (k v : Int) : Option Int := if k = 1 ∨ k = 4 then some 0 else if k = 6 then some v else none
/-- What stands between the j-th and the next one. -/
def gapAt (k size align : Int) (z : List (Int × Int)) (j : Nat) : List (Int × Int) :=
  match emptyV k (vOf z j) with
  | some v => if j + 1 < z.length then gapL size v (endB (tOf z j) size align) (cntG size (endB (tOf z j) size align) (tOf z (j + 1))) else []
  | none => []
/-- The first n ones, each with the empty ones behind it. -/
def fillP (k size align : Int) (z : List (Int × Int)) : Nat → List (Int × Int)
  | 0 => []
  | j + 1 => fillP k size align z j ++ ((tOf z j, vOf z j) :: gapAt k size align z j)
/-- Samples that are buckets: at their beginnings, each above the one ahead. -/
def areB (size align : Int) (z : List (Int × Int)) : Prop := ∀ j, j < z.length → startB (tOf z j) size align = tOf z j ∧ (0 < j → tOf z (j - 1) < tOf z j)
instance (size align : Int) (z : List (Int × Int)) : Decidable (areB size align z) := inferInstanceAs (Decidable (∀ j, j < z.length → _))
def okF (k size align : Int) (z : List (Int × Int)) : Prop := ((1 ≤ k ∧ k ≤ 7) ∧ rightB size align) ∧ areB size align z
instance (k size align : Int) (z : List (Int × Int)) : Decidable (okF k size align z) := inferInstanceAs (Decidable (_ ∧ _))
/-- Fill's answer: the samples, and what is wrong. -/
def fillR (k size align : Int) (z : List (Int × Int)) : List (Int × Int) × Int :=
  if okF k size align z then if 10000 < (fillP k size align z z.length).length then ([], 13) else (fillP k size align z z.length, 0) else ([], 1)

theorem startB_fix {t size align : Int} (h : rightB size align) (e : startB t size align = t) : 0 ≤ t ∧ t ≤ 1099511627776 := by
  have ha := h.2.1
  unfold startB at e
  split at e
  · subst e; omega
  · rename_i hn
    have : ¬ t < align := fun h' => hn (.inr (.inl h'))
    have : ¬ 1099511627776 < t := fun h' => hn (.inr (.inr h'))
    omega
/-- The places between two buckets are buckets' ends, one behind the other. -/
theorem gap_step {t size align : Int} (h : rightB size align) (e : startB t size align = t) (j : Nat) (hj : endB t size align + (j : Int) * size ≤ 1099511627776) :
    startB (endB t size align + (j : Int) * size) size align = endB t size align + (j : Int) * size ∧ endB (endB t size align + (j : Int) * size) size align = endB t size align + ((j + 1 : Nat) : Int) * size ∧ t < endB t size align ∧ align ≤ endB t size align ∧ 0 ≤ (j : Int) * size := by
  obtain ⟨h0, h1⟩ := startB_fix h e
  have hs := h.1.1
  have ha := h.2.1
  have hj0 : 0 ≤ (j : Int) * size := Int.mul_nonneg (by omega) (by omega)
  have hlt := (endB_is h h0 h1).2.1
  have hE : endB t size align ≤ 1099511627776 := by omega
  have hal : align ≤ endB t size align := by rw [endB_of h h0 h1]; split <;> omega
  have hst := endB_next h h0 h1 hE
  obtain ⟨m, hm0, hm⟩ : ∃ m, 0 ≤ m ∧ endB t size align = align + m * size := by
    rcases startB_is h (show 0 ≤ endB t size align by omega) hE with ⟨h2, _⟩ | ⟨_, m, hm0, h3, _⟩
    · omega
    · exact ⟨m, hm0, by rw [← hst]; exact h3⟩
  generalize endB t size align = b at *
  have e1 : b + (j : Int) * size = align + (m + j) * size := by rw [Int.add_mul]; omega
  have e2 : startB (b + (j : Int) * size) size align = b + (j : Int) * size := by
    rw [e1]
    exact startB_eq h (by rw [← e1]; exact hj) (by omega) (by omega) (by omega)
  refine ⟨e2, ?_, hlt, hal, hj0⟩
  rw [endB_of h (by omega) hj, if_neg (by omega), e2]
  rw [show ((j + 1 : Nat) : Int) = (j : Int) + 1 from by omega, Int.add_mul, Int.one_mul]; omega

theorem fillP_succ (k size align : Int) (z : List (Int × Int)) (j : Nat) : fillP k size align z (j + 1) = fillP k size align z j ++ [(tOf z j, vOf z j)] ++ gapAt k size align z j := by
  rw [fillP, List.append_assoc]; rfl
theorem fillP_mono (k size align : Int) (z : List (Int × Int)) (i n : Nat) : (fillP k size align z i).length ≤ (fillP k size align z (i + n)).length := by
  induction n with
  | zero => exact Nat.le_refl _
  | succ n ih =>
    rw [show i + (n + 1) = i + n + 1 from by omega, fillP, List.length_append]
    omega
theorem fillP_le (k size align : Int) (z : List (Int × Int)) {i j : Nat} (h : i ≤ j) : (fillP k size align z i).length ≤ (fillP k size align z j).length := by
  have := fillP_mono k size align z i (j - i)
  rwa [show i + (j - i) = j from by omega] at this
theorem gapAt_none {k size align : Int} {z : List (Int × Int)} {j : Nat} (h : emptyV k (vOf z j) = none) : gapAt k size align z j = [] := by unfold gapAt; rw [h]
theorem gapAt_last {k size align : Int} {z : List (Int × Int)} {j : Nat} (h : z.length ≤ j + 1) : gapAt k size align z j = [] := by
  unfold gapAt
  split
  · rw [if_neg (by omega)]
  · rfl
theorem gapAt_some {k size align v : Int} {z : List (Int × Int)} {j : Nat} (h : emptyV k (vOf z j) = some v) (hj : j + 1 < z.length) : gapAt k size align z j = gapL size v (endB (tOf z j) size align) (cntG size (endB (tOf z j) size align) (tOf z (j + 1))) := by
  unfold gapAt
  rw [h]
  simp only
  rw [if_pos hj]
theorem pair_at (z : List (Int × Int)) (j : Nat) (h : j < z.length) : z[j] = (tOf z j, vOf z j) := by
  unfold tOf vOf
  rw [List.getD_eq_getElem?_getD, List.getElem?_eq_getElem h]; rfl
/-- Kinds that are not filled leave what is there. -/
theorem fillP_bare {k size align : Int} {z : List (Int × Int)} (h : ¬ (k = 1 ∨ k = 4 ∨ k = 6)) (j : Nat) (hj : j ≤ z.length) : fillP k size align z j = z.take j := by
  induction j with
  | zero => simp [fillP]
  | succ j ih =>
    have he : emptyV k (vOf z j) = none := by unfold emptyV; rw [if_neg (by omega), if_neg (by omega)]
    rw [fillP_succ, gapAt_none he, List.append_nil, ih (by omega), List.take_succ_eq_append_getElem (by omega), pair_at z j (by omega)]

/-! What a query is told. -/
def madeR (q : Qry) (z : List (Int × Int)) : List (Int × Int) × Int :=
  if q.kd = 0 then (z, 0) else if q.emp = true then fillR q.kd q.sz q.al (buckA q.kd q.sz q.al z) else (buckA q.kd q.sz q.al z, 0)
def turnR (b : Bool) (z : List (Int × Int)) : List (Int × Int) := if b = true then z.reverse else z
def cutR (n : Int) (z : List (Int × Int)) : List (Int × Int) := if n = 0 then z else z.take n.toNat
def tellR (q : Qry) (z : List (Int × Int)) : List (Int × Int) × Int :=
  if rightQ q then if (madeR q (z.filter (passB q))).2 = 0 then (cutR q.cnt (turnR q.back (madeR q (z.filter (passB q))).1), 0) else ([], (madeR q (z.filter (passB q))).2) else ([], 1)

end Go.Proofs.Ytpahohnpcfgegaa
