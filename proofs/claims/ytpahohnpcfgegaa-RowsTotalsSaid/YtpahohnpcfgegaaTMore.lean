/-
  Plain facts of layer 7, the second part: the machine's numbers, lengths.
-/
import Derived.Test.YtpahohnpcfgegaaTMath
import Derived.Test.YtpahohnpcfgegaaAState
import Derived.Test.YtpahohnpcfgegaaATime
namespace Go.Proofs.Ytpahohnpcfgegaa
set_option linter.unusedVariables false
set_option linter.unusedSimpArgs false

theorem all64_appT {x y : List (Int × Int)} (hx : All64 x) (hy : All64 y) : All64 (x ++ y) := fun u hu => by
  rcases List.mem_append.1 hu with h | h
  · exact hx u h
  · exact hy u h
theorem gapL64 {size v b e : Int} (hs : 1 ≤ size) (hb : 0 ≤ b) (he : e ≤ 1099511627776) (hv : in64 v) : All64 (gapL size v b (cntG size b e)) := by
  intro u hu
  unfold gapL at hu
  obtain ⟨i, hi, rfl⟩ := List.mem_map.1 hu
  have h1 := (cntG_iff (b := b) (e := e) hs i).1 (List.mem_range.1 hi)
  have h2 : 0 ≤ (i : Int) * size := Int.mul_nonneg (by omega) (by omega)
  exact ⟨by unfold in64; simp only; omega, hv⟩
theorem gapAt64 {k size align : Int} {z : List (Int × Int)} (hz : All64 z) (h : okF k size align z) (j : Nat) (hj : j < z.length) : All64 (gapAt k size align z j) := by
  cases he : emptyV k (vOf z j) with
  | none => rw [gapAt_none he]; simp [All64]
  | some v =>
    by_cases hl : j + 1 < z.length
    · rw [gapAt_some he hl]
      have h1 := startB_fix h.1.2 (h.2 j hj).1
      have h2 := startB_fix h.1.2 (h.2 (j + 1) hl).1
      have h3 := endB_is h.1.2 h1.1 h1.2
      refine gapL64 h.1.2.1.1 (by omega) h2.2 ?_
      unfold emptyV at he
      split at he
      · cases he; unfold in64; omega
      · split at he
        · cases he; exact (all64_at hz j).2
        · cases he
    · rw [gapAt_last (by omega)]; simp [All64]
theorem fillP64 {k size align : Int} {z : List (Int × Int)} (hz : All64 z) (h : okF k size align z) (j : Nat) (hj : j ≤ z.length) : All64 (fillP k size align z j) := by
  induction j with
  | zero => simp [fillP, All64]
  | succ j ih =>
    rw [fillP_succ]
    refine all64_appT (all64_appT (ih (by omega)) ?_) (gapAt64 hz h j (by omega))
    intro u hu
    rw [List.mem_singleton] at hu
    subst hu
    exact all64_at hz j
theorem fillR64 {k size align : Int} {z : List (Int × Int)} (hz : All64 z) : All64 (fillR k size align z).1 := by
  unfold fillR
  split
  · split
    · simp [All64]
    · rename_i h _; exact fillP64 hz h _ (Nat.le_refl _)
  · simp [All64]
theorem fillR_len (k size align : Int) (z : List (Int × Int)) : (fillR k size align z).1.length ≤ 10000 := by
  unfold fillR
  split
  · split
    · simp
    · simp only; omega
  · simp
theorem buckT64 {k size align : Int} {z : List (Int × Int)} (h : All64 z) (hl : z.length < 4611686018427387904) : All64 (buckA k size align z) := by
  intro x hx
  unfold buckA at hx
  split at hx
  · unfold buckL at hx
    obtain ⟨g, hg, rfl⟩ := List.mem_map.1 hx
    obtain ⟨h1, h2⟩ := groups_mem hg
    obtain ⟨u, hu⟩ := List.exists_mem_of_ne_nil _ h1
    have hs := (h2 u hu).2
    have hin := startB_in (t := u.1) (size := size) (align := align)
    rw [hs] at hin
    refine ⟨by unfold in64; simp only; omega, ?_⟩
    refine valK_in (fun e => h1 ((valsOf_nil _).1 e)) (fun v hv => by
      obtain ⟨x, hx, rfl⟩ := List.mem_map.1 hv
      exact (h x (h2 x hx).1).2) ?_
    rw [valsOf_len]
    have : g.2.length ≤ z.length := by
      have hf := grp_flat (fun t => startB t size align) z
      have h3 : g.2.length ≤ (((grp (fun t => startB t size align) z).map (·.2)).flatten).length := by
        obtain ⟨s, t, e⟩ := List.append_of_mem (show g ∈ grp (fun t => startB t size align) z from hg)
        rw [e]
        simp
        omega
      rw [hf] at h3
      exact h3
    omega
  · cases hx
theorem buckT_few (k size align : Int) (z : List (Int × Int)) : (buckA k size align z).length ≤ z.length := by
  unfold buckA
  split
  · rw [buck_len]; exact groups_few _ _ _
  · simp
theorem filter64 {z : List (Int × Int)} (p : Int × Int → Bool) (h : All64 z) : All64 (z.filter p) := fun u hu => h u ((List.mem_filter.1 hu).1)
theorem madeR64 {q : Qry} {z : List (Int × Int)} (h : All64 z) (hl : z.length ≤ 10000) : All64 (madeR q z).1 := by
  unfold madeR
  split
  · exact h
  · split
    · exact fillR64 (buckT64 h (by omega))
    · exact buckT64 h (by omega)
theorem madeR_len {q : Qry} {z : List (Int × Int)} (hl : z.length ≤ 10000) : (madeR q z).1.length ≤ 10000 := by
  unfold madeR
  split
  · exact hl
  · split
    · exact fillR_len _ _ _ _
    · exact Nat.le_trans (buckT_few _ _ _ _) hl
theorem turnR64 {z : List (Int × Int)} (b : Bool) (h : All64 z) : All64 (turnR b z) := by
  unfold turnR
  split
  · exact fun u hu => h u (List.mem_reverse.1 hu)
  · exact h
theorem turnR_len (b : Bool) (z : List (Int × Int)) : (turnR b z).length = z.length := by
  unfold turnR
  split
  · rw [List.length_reverse]
  · rfl
theorem filter_snoc (p : Int × Int → Bool) (z : List (Int × Int)) (j : Nat) (h : j < z.length) : (z.take (j + 1)).filter p = if p (tOf z j, vOf z j) = true then (z.take j).filter p ++ [(tOf z j, vOf z j)] else (z.take j).filter p := by
  rw [List.take_succ_eq_append_getElem h, List.filter_append, pair_at z j h]
  cases hp : p (tOf z j, vOf z j) <;> simp [hp]

end Go.Proofs.Ytpahohnpcfgegaa
