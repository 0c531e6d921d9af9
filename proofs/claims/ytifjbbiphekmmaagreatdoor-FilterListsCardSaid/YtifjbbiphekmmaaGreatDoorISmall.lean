/-
  Contracts of index.New, isNone, Key, put.
-/
import Derived.Test.YtifjbbiphekmmaaGreatDoorIAt
namespace Go.Proofs.YtifjbbiphekmmaaGreatDoor
open Go.RowKit
set_option linter.unusedVariables false
set_option linter.unusedSimpArgs false

theorem isNone_nil (w : World) : Calls Tryz.prog 51 #[.pointer none] w fun e w' => e = .returned (.bool true) ∧ w = w' := by
  go_enter Tryz.func51, Tryz.ntmps51
  go_wp2
  go_ret
  exact ⟨rfl, rfl⟩
theorem isNone_no (w : World) (x bl bn : Nat) (h : IxCell w x bl bn) : Calls Tryz.prog 51 #[.pointer (some ⟨x, 0, none⟩)] w fun e w' => e = .returned (.bool false) ∧ w = w' := by
  have heq := fun (r : Option Nat) (W : World) => run_eql_map_nil W 93 _ _ r Tryz.underlying93
  have c0 := h.c0
  go_enter Tryz.func51, Tryz.ntmps51
  go_wp2
  go_ret
  exact ⟨rfl, rfl⟩

theorem key_any (s : Tx) (w : World) : Calls Tryz.prog 36 #[.string (bs s)] w fun e w' => e = .returned (.bool (decide (keyB s))) ∧ w = w' := by
  have hs := bs_size s
  by_cases h1 : 1 ≤ s.length
  · have h1z : decide ((1 : Int) ≤ ((bs s).size : Int)) = true := decide_eq_true (by omega)
    go_enter Tryz.func36, Tryz.ntmps36
    go_wp2
    go_ret
    exact ⟨ret_bool (decide_eq_decide.2 (by unfold keyB; omega)), rfl⟩
  · have h1z : decide ((1 : Int) ≤ ((bs s).size : Int)) = false := decide_eq_false (by omega)
    go_enter Tryz.func36, Tryz.ntmps36
    go_wp2
    go_ret
    exact ⟨ret_bool (decide_eq_false (by unfold keyB; omega)).symm, rfl⟩

theorem new_any (w : World) : Calls Tryz.prog 33 #[] w fun e w' => ∃ x bl bn ρ, e = .returned (.pointer (some ⟨x, 0, none⟩)) ∧ IxAt w' x bl bn ρ [] ∧ Below w.heap.size w w' ∧ ∀ i, FA ρ i → w.heap.size ≤ i := by
  have hmm := @run_makeMap Tryz.prog
  have B1 := (Below.refl w.heap.size w).alloc (Nat.le_refl _) (.map #[] 0)
  have M1 := MapAt.new w
  have M2 := MapAt.new (w.alloc (.map #[] 0))
  have M1' := M1.keep ((Below.refl _ _).alloc (Nat.le_refl _) (.map #[] 0))
  have B2 := B1.alloc (by simp) (.map #[] 0)
  have B3 := B2.alloc (by simp; omega) (.cells #[mp w.heap.size, mp (w.heap.size + 1)] 97)
  have X3 := heap_new ((w.alloc (.map #[] 0)).alloc (.map #[] 0)) (.cells #[mp w.heap.size, mp (w.heap.size + 1)] 97)
  have B23 := (Below.refl _ ((w.alloc (.map #[] 0)).alloc (.map #[] 0))).alloc (Nat.le_refl _) (.cells #[mp w.heap.size, mp (w.heap.size + 1)] 97)
  have M1'' := M1'.keep B23
  have M2' := M2.keep B23
  have s1 : (w.alloc (.map #[] 0)).heap.size = w.heap.size + 1 := by simp
  have s2 : ((w.alloc (.map #[] 0)).alloc (.map #[] 0)).heap.size = w.heap.size + 1 + 1 := by simp
  rw [s1] at M2'
  rw [s2] at X3
  clear B1 B2 M1 M2 M1' B23
  go_enter Tryz.func33, Tryz.ntmps33
  go_wp2
  go_ret
  have fa : ∀ i r, (Rho.upd (Rho.upd (fun _ => none) w.heap.size .labs) (w.heap.size + 1) .nams) i = some r → i = w.heap.size ∨ i = w.heap.size + 1 := by
    intro i r e
    by_cases h1 : i = w.heap.size + 1
    · exact .inr h1
    · rw [upd_ne _ _ h1] at e
      by_cases h2 : i = w.heap.size
      · exact .inl h2
      · rw [upd_ne _ _ h2] at e; cases e
  refine ⟨w.heap.size + 1 + 1, w.heap.size, w.heap.size + 1, Rho.upd (Rho.upd (fun _ => none) w.heap.size .labs) (w.heap.size + 1) .nams, rfl, ⟨X3, ?_, upd_same .., ⟨[], M1'', List.Perm.refl _, by simp⟩, ⟨fun _ => none, [], M2', fun _ => rfl, fun _ _ e => (by cases e), fun _ _ _ e => ?_⟩, fun i r e => ?_, GoodE.nil⟩, B3, fun i hi => ?_⟩
  · rw [upd_ne _ _ (by omega)]; exact upd_same ..
  · obtain ⟨l, h1, _⟩ := e; cases h1
  · rcases fa i r e with rfl | rfl
    · exact M1''.isMap
    · exact M2'.isMap
  · cases e : (Rho.upd (Rho.upd (fun _ => none) w.heap.size .labs) (w.heap.size + 1) .nams) i with
    | none => exact absurd e hi
    | some r => rcases fa i r e with rfl | rfl <;> omega

end Go.Proofs.YtifjbbiphekmmaaGreatDoor
