/-
  Contracts of what only reads lists of texts: sets.Right, sets.Has; the document's Below, Right, Has, Same; the law's light; cmp.Compare of texts.
-/
import Derived.Test.YtlogkhifgkkjeaaEMem
import Derived.Test.YtlogkhifgkkjeaaEShelf
import Derived.Lib.SlicesS
namespace Go.Proofs.Ytlogkhifgkkjeaa
open Go.RowKit
set_option linter.unusedVariables false
set_option linter.unusedSimpArgs false

theorem isNaN_any (s : ByteArray) (w : World) : Calls Try.prog 88 #[.string s] w fun e w' => e = .returned (.bool false) ∧ w = w' := by
  have tb : (s.toList != s.toList) = false := by simp
  go_enter Try.func88, Try.ntmps88
  go_wp2
  go_ret
  exact ⟨by simp, rfl⟩
/-- Which of two texts is the lesser one. -/
def cmpL (x y : Tx) : Int := if x < y then -1 else if y < x then 1 else 0

/-- Sorted as far as place j. -/
theorem ss_snoc {l : List Tx} {j : Nat} (h : SS (l.take (j + 1))) (hj : j + 1 < l.length) (k : l.getD j [] < l.getD (j + 1) []) : SS (l.take (j + 1 + 1)) := by
  rw [List.take_succ_eq_append_getElem hj]
  refine ss_app.2 ⟨h, one_ss _, fun x hx y hy => ?_⟩
  have e : y = l[j + 1] := by simpa using hy
  rw [getD_get (by omega), getD_get hj] at k
  rw [List.take_succ_eq_append_getElem (by omega), ss_app] at h
  rw [List.take_succ_eq_append_getElem (by omega), List.mem_append] at hx
  rw [e]
  rcases hx with hx | hx
  · exact lt_tr (h.2.2 x hx l[j] (by simp)) k
  · have e2 : x = l[j] := by simpa using hx
    rw [e2]; exact k
theorem ss_not {l : List Tx} {j : Nat} (hj : j + 1 < l.length) (k : ¬ l.getD j [] < l.getD (j + 1) []) : ¬ SS l := fun h => by
  rw [getD_get (by omega), getD_get hj] at k
  exact k (List.pairwise_iff_getElem.1 h j (j + 1) (by omega) hj (by omega))
theorem ss_short {l : List Tx} (h : l.length ≤ 1) : SS l := by
  match l, h with
  | [], _ => exact ss_nil
  | [x], _ => exact one_ss x


end Go.Proofs.Ytlogkhifgkkjeaa
