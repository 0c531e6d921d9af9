/-
  'append(row, list...)' for samples, guarded or not, the row of the call's own, the list nil or not.
-/
import Derived.Test.YtpbhdlhbcfkhfaaGreatCLaid
import Derived.Laws.AppendOwn
import Derived.Laws.OwnMore
namespace Go.Proofs.YtpbhdlhbcfkhfaaGreat
open Go.RowKit
set_option linter.unusedVariables false
set_option linter.unusedSimpArgs false

theorem run_append_nothing {P : Program} {w : World} (base : Nat) (t ty e : TypeId) (i : TypeInfo) (size c : Nat) (ht : P.underlying t = some (.slice e)) (hi : P.info? e = some i)
    (v : Value) (n : Nat) (xs : List Value) (hown : w.ownsRow base e size v n xs) :
    (Builtin.append_ #[t, t] ty #[v, .slice none 0 c]).run P w = .ok v w := by
  rcases hown.2 with ⟨rfl, rfl⟩ | ⟨g, cap, cur, rfl, _, _, hnc, _⟩
  · simp [Builtin.append_, run_underlying ht, sizeOf, typeInfo, hi, Builtin.lenOf, Builtin.firstCells]
  · simp [Builtin.append_, run_underlying ht, sizeOf, typeInfo, hi, Builtin.lenOf, Builtin.firstCells, hnc, storeCells]

theorem wpList_append_lst {w : World} {ops : Array Oper} {rest : List Oper} {o : Oper} {a : Act} {Q : Exit → Act → World → Prop} (hw : Region.wanted o (yielded ops a.tmps) = true) (s x : Operand)
    (ho : o.op = .call { callee := .builtin .append, args := #[s, x], argTypes := #[53, 53] })
    (base : Nat) (v : Value) (n : Nat) (z0 : List (Int × Int)) (hs : a.eval s = v) (hn : z0.length = n) (hown : w.ownsRow base 33 2 v n (smpCells z0))
    (ax : Option Addr) (m c : Nat) (z : List (Int × Int)) (hx : a.eval x = .slice ax m c) (hl : Lst w ax m c z) (hb : n + m ≤ 1048576) (hbase : base ≤ w.heap.size)
    (h : ∀ v' w', w'.ownsRow base 33 2 v' (n + m) (smpCells (z0 ++ z)) → w.grownBy w' v.ownBlock → wpList Tryz.prog ops Q rest (a.put o.dst v') w') : wpList Tryz.prog ops Q (o :: rest) a w := by
  obtain ⟨i0, hi, hz0, hz1, hz2⟩ := info_parts info_samp
  refine wpList_step fun K hK => ?_
  rw [if_pos hw]
  have hm := hl.len
  cases ax with
  | none =>
    have h0 : m = 0 := by
      rcases hl.1.2.2.2.2 with e | ⟨b, off, e, _⟩
      · exact e
      · cases e
    subst h0
    have e0 : z = [] := List.eq_nil_of_length_eq_zero hm
    subst e0
    have hrun := run_append_nothing (P := Tryz.prog) (w := w) base 53 o.type 33 i0 2 c Tryz.underlying53 hi v n _ hown
    unfold Oper.wp
    simp [execOp, ho, resolve, invoke, builtin, hs, hx, hrun, Result.andThen]
    refine hK _ _ (h v w ?_ (gb_refl _ _))
    simpa using hown
  | some ad =>
    refine wp_append_own w s x 53 ho base 33 i0 _ 2 16 Tryz.underlying53 hi hz0 hz1 hz2 rfl (by omega) v n _ hs hown ad m c (smpCells z) hx (by rw [smpCells_length, hm]) ?_ (smpCells_one z) (by unfold maxLen; omega) (by omega) hbase ?_
    · intro j u hj
      by_cases h0 : 0 < m
      · obtain ⟨ad', e, hc⟩ := src_cells hl h0
        cases e
        exact hc j u hj
      · have : z = [] := List.eq_nil_of_length_eq_zero (by omega)
        subst this
        simp [smpCells] at hj
    · intro v' w' h2 h3 _
      refine hK _ _ (h v' w' ?_ h3)
      rw [smpCells_append]; exact h2

/-- A row of the call's own, as a list. -/
theorem owns_lst {W : World} {base : Nat} {v : Value} {z : List (Int × Int)} {n : Nat} (hn : z.length = n) (hz : All64 z) (hb : n ≤ 1048576) (hown : W.ownsRow base 33 2 v n (smpCells z)) :
    ∃ ad cp, v = .slice ad n cp ∧ Lst W ad n cp z := by
  subst hn
  obtain ⟨ad, cp, rfl, hs, _⟩ := owns_samps hz (by omega) hown
  refine ⟨ad, cp, rfl, hs, ?_⟩
  rcases hown.2 with ⟨h, h0⟩ | ⟨g, cp', cur, h, hgb, hgc, _⟩
  · exact .inl h0
  · cases h
    exact .inr ⟨⟨g, 0, none⟩, cur, _, rfl, hgc⟩
/-- An empty row. -/
theorem owns_empty (w : World) (base : Nat) (hb : base ≤ w.heap.size) : (w.alloc (.cells #[] 33)).ownsRow base 33 2 (.slice (some ⟨w.heap.size, 0, none⟩) 0 0) 0 (smpCells []) :=
  ⟨rfl, .inr ⟨w.heap.size, 0, #[], rfl, hb, heap_new w _, Nat.le_refl _, by unfold maxLen; omega, rfl, rfl⟩⟩

end Go.Proofs.YtpbhdlhbcfkhfaaGreat
