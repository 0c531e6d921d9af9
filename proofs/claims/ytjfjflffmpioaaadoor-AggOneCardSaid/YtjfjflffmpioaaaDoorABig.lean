/-
  Facts for the laws over buckets: an array of two bytes that comes in; what is in buckets fits.
-/
import Derived.Test.YtjfjflffmpioaaaDoorAKnown
import Derived.ProofKit
import Derived.OpenShut
namespace Go.Proofs.YtjfjflffmpioaaaDoor
open Go.RowKit Go.ChangeShapes Go.WideShapes Go.ChangeAt
set_option linter.unusedVariables false
set_option linter.unusedSimpArgs false

namespace agg8
theorem trod_two {H : Type} {enc : TypeId × Value → H} {P : Program} {w : World} {base : Nat} {spare : Nat → Bool} {held : Bool} {t e : TypeId} {fuel : Nat} {c0 c1 : Value} {x : DataW H × List MemPlace} (ht : P.underlying t = some (.array 2 e)) (hce : P.cellsOf e = 1)
    (h : DataW.trod enc P w base spare held fuel t [c0, c1] = some x) :
    ∃ y0 y1 n, DataW.trod enc P w base spare held n e [c0] = some y0 ∧ DataW.trod enc P w base spare held n e [c1] = some y1 := by
  cases fuel with
  | zero => simp [DataW.trod] at h
  | succ n =>
    unfold DataW.trod at h
    rw [ht] at h
    have r2 : List.range 2 = [0, 1] := rfl
    simp [r2, hce] at h
    obtain ⟨_, h⟩ := h
    cases h0 : DataW.trod enc P w base spare held n e [c0] with
    | none => simp [h0] at h
    | some y0 =>
      cases h1 : DataW.trod enc P w base spare held n e [c1] with
      | none => simp [h0, h1] at h
      | some y1 => exact ⟨y0, y1, n, h0, h1⟩
end agg8
set_option maxRecDepth 100000 in
theorem open_arr2u8 {H : Type} {enc : TypeId × Value → H} {W : World} {r : Reach} {b0 : Nat} {v : Value} {d : DataW H} {p : List MemPlace}
    (hv : Value.okWide Tryd.prog W r b0 50 v) (h : DataW.Trod enc Tryd.prog W 0 (fun _ => true) true 50 v d p) :
    ∃ z : Int × Int, v = .agg #[.int .u8 z.1, .int .u8 z.2] ∧ (0 ≤ z.1 ∧ z.1 ≤ 255) ∧ (0 ≤ z.2 ∧ z.2 ≤ 255) := by
  simp only [Value.okWide, Tryd.underlying50] at hv
  obtain ⟨cs, rfl, hsz, _⟩ := hv
  have hc : cs.size = 2 := hsz.trans (by kernel_rfl)
  obtain ⟨l⟩ := cs
  match l, hc with
  | [c0, c1], _ =>
    obtain ⟨fuel, hf⟩ := h
    obtain ⟨y0, y1, n, h0, h1⟩ := agg8.trod_two Tryd.underlying50 (by kernel_rfl) hf
    obtain ⟨n0, e0, _, w0⟩ := DataW.trod_int Tryd.underlying5 h0
    obtain ⟨n1, e1, _, w1⟩ := DataW.trod_int Tryd.underlying5 h1
    simp at e0 e1
    subst e0 e1
    exact ⟨(n0, n1), rfl, bounds_u8 w0, bounds_u8 w1⟩

theorem group_len {size align : Int} {z : List (Int × Int)} {g : Int × List (Int × Int)} (hg : g ∈ groups size align z) : g.2.length ≤ z.length := by
  have hf := grp_flat (fun t => startB t size align) z
  have h3 : g.2.length ≤ (((grp (fun t => startB t size align) z).map (·.2)).flatten).length := by
    obtain ⟨s, t, e⟩ := List.append_of_mem (show g ∈ grp (fun t => startB t size align) z from hg)
    rw [e]
    simp
    omega
  rw [hf] at h3
  exact h3
theorem buckL64 {k size align : Int} {z : List (Int × Int)} (h : All64 z) (hl : z.length < 4611686018427387904) : All64 (buckL k size align z) := by
  intro x hx
  unfold buckL at hx
  obtain ⟨g, hg, rfl⟩ := List.mem_map.1 hx
  obtain ⟨h1, h2⟩ := groups_mem hg
  obtain ⟨u, hu⟩ := List.exists_mem_of_ne_nil _ h1
  have hs := (h2 u hu).2
  have hin := startB_in (t := u.1) (size := size) (align := align)
  rw [hs] at hin
  refine ⟨by unfold in64; simp only; omega, ?_⟩
  refine valK_in (fun e => h1 ((valsOf_nil _).1 e)) (vals64 (fun v hv => h v (h2 v hv).1)) ?_
  rw [valsOf_len]
  have := group_len hg
  omega
/-- A bucket's count. -/
theorem count_few {size align : Int} {z : List (Int × Int)} (j : Nat) (hj : j < (buckL 4 size align z).length) : 0 ≤ vOf (buckL 4 size align z) j ∧ vOf (buckL 4 size align z) j ≤ z.length := by
  have hm : (buckL 4 size align z)[j] ∈ buckL 4 size align z := List.getElem_mem hj
  have e : vOf (buckL 4 size align z) j = (buckL 4 size align z)[j].2 := by unfold vOf; rw [List.getD_eq_getElem?_getD, List.getElem?_eq_getElem hj]; rfl
  rw [e]
  obtain ⟨g, hg, eg⟩ := List.mem_map.1 (show (buckL 4 size align z)[j] ∈ (groups size align z).map _ from hm)
  rw [← eg]
  have hne : valsOf g.2 ≠ [] := fun e => (groups_mem hg).1 ((valsOf_nil _).1 e)
  simp only
  rw [(valK_of hne).2.2.2.1, valsOf_len]
  have := group_len hg
  omega
theorem sum_step (l : List (Int × Int)) (j : Nat) (h : j < l.length) : ((valsOf l).take (j + 1)).sum = ((valsOf l).take j).sum + vOf l j := by
  rw [vOf_vals l j h, List.sum_append, List.sum_singleton]
/-- The least of all buckets' least, and the greatest. -/
theorem buck_ends (size align : Int) (z : List (Int × Int)) : valK 2 (valsOf (buckL 2 size align z)) = valK 2 (valsOf z) ∧ valK 3 (valsOf (buckL 3 size align z)) = valK 3 (valsOf z) ∧ isK 2 (valsOf (buckL 2 size align z)) = isK 2 (valsOf z) := by
  by_cases hz : z = []
  · subst hz; exact ⟨rfl, rfl, rfl⟩
  · have h0 : valsOf z ≠ [] := fun e => hz ((valsOf_nil _).1 e)
    have h2 : valsOf (buckL 2 size align z) ≠ [] := fun e => hz ((buck_nil 2 size align z).1 ((valsOf_nil _).1 e))
    have h3 : valsOf (buckL 3 size align z) ≠ [] := fun e => hz ((buck_nil 3 size align z).1 ((valsOf_nil _).1 e))
    refine ⟨?_, ?_, ?_⟩
    · rw [(valK_of h0).2.1, (valK_of h2).2.1, buck_min]
    · rw [(valK_of h0).2.2.1, (valK_of h3).2.2.1, buck_max]
    · unfold isK; rw [decide_eq_true h0, decide_eq_true h2]
/-- The samples whose times can be. -/
def inC (z : List (Int × Int)) (j : Nat) : List (Int × Int) := (z.take j).filter (fun u => canT u.1)
theorem inC_yes {z : List (Int × Int)} {j : Nat} (h : j < z.length) (hc : canT (tOf z j) = true) : inC z (j + 1) = inC z j ++ [(tOf z j, vOf z j)] := by
  unfold inC
  rw [List.take_succ_eq_append_getElem h, List.filter_append]
  have e : z[j] = (tOf z j, vOf z j) := by unfold tOf vOf; rw [List.getD_eq_getElem?_getD, List.getElem?_eq_getElem h]; rfl
  rw [e]
  simp [hc]
theorem inC_no {z : List (Int × Int)} {j : Nat} (h : j < z.length) (hc : canT (tOf z j) = false) : inC z (j + 1) = inC z j := by
  unfold inC
  rw [List.take_succ_eq_append_getElem h, List.filter_append]
  have e : z[j] = (tOf z j, vOf z j) := by unfold tOf vOf; rw [List.getD_eq_getElem?_getD, List.getElem?_eq_getElem h]; rfl
  rw [e]
  simp [hc]
theorem inC_ok (z : List (Int × Int)) (j : Nat) : okT (inC z j) := by
  intro u hu
  exact of_decide_eq_true (List.mem_filter.1 hu).2
theorem inC_64 {z : List (Int × Int)} (h : All64 z) (j : Nat) : All64 (inC z j) := fun u hu => h u (List.mem_of_mem_take (List.mem_filter.1 hu).1)
theorem inC_few (z : List (Int × Int)) (j : Nat) : (inC z j).length ≤ j := by
  unfold inC
  exact Nat.le_trans (List.length_filter_le _ _) (by rw [List.length_take]; omega)
theorem st_size {x0 x1 r : Int} (h0 : 0 ≤ x0 ∧ x0 ≤ 255) (h1 : 0 ≤ x1 ∧ x1 ≤ 255) (hr : x1 % (1 + x0) = r) : rightB (1 + x0) r := by
  have h2 := Int.emod_nonneg x1 (show 1 + x0 ≠ 0 by omega)
  have h3 := Int.emod_lt_of_pos x1 (show 0 < 1 + x0 by omega)
  exact ⟨⟨by omega, by omega⟩, by omega, by omega⟩

end Go.Proofs.YtjfjflffmpioaaaDoor
