/-
  Contracts of a state's calls: Value, Len, Copy, New; and of a state that is not there.
-/
import Derived.Test.YtojnalpmibpchaaDoorAState
namespace Go.Proofs.YtojnalpmibpchaaDoor
open Go.RowKit Go.Shelf
set_option linter.unusedVariables false
set_option linter.unusedSimpArgs false

/-- A number, and whether there is one. -/
def tell (v : Int) (b : Bool) : Value := .tuple #[.int .i64 v, .bool b]
def ValP (k : Int) (l : List Int) (w : World) (e : Ending) (w' : World) : Prop := e = .returned (tell (valK k l) (decide (l ≠ []))) ∧ Below w.heap.size w w'
theorem Drew.below {w w' : World} (h : Drew w w') : Below w.heap.size w w' := gb_below_none (h.gb none)

set_option maxHeartbeats 1000000 in
theorem value_empty (b : Nat) (k : Int) (w : World) (hk : kok k) (h : StP w b k []) :
    Calls Tryd.prog 15 #[.pointer (some ⟨b, 0, none⟩)] w (ValP k [] w) := by
  obtain ⟨m, lo, hi, hs, _, _⟩ := h
  have HS := Lib.hid hs
  have c1 : w.cell? ⟨b, 1, none⟩ = some (.int .i64 0) := by rw [cell_of hs]; rfl
  have HK := Lib.hid (show k ≠ 0 by unfold kok at hk; omega)
  have E := Lib.hid (valK_nil k)
  clear hs hk
  go_enter Tryd.func15, Tryd.ntmps15
  go_wp2_with fail
  refine (isnone_any b _ _ _ _ _ _ HS.out HK.out).mono ?_
  rintro e w' ⟨rfl, rfl⟩
  go_wp2
  go_ret2
  exact ⟨by rw [E.out]; rfl, Below.refl _ _⟩

set_option maxRecDepth 100000 in
set_option maxHeartbeats 1000000 in
theorem value_join (g : FuncId) (k : Int) (hW : Hid (∀ W, Calls Tryd.prog 27 #[.int .i64 k] W (WorkJ g W))) (hk0 : k ≠ 0) (hk4 : k ≠ 4) (hk7 : k ≠ 7)
    (b : Nat) (l : List Int) (w : World) (h : StP w b k l) (hne : l ≠ []) (hl : l.length < 4611686018427387904) :
    Calls Tryd.prog 15 #[.pointer (some ⟨b, 0, none⟩)] w (ValP k l w) := by
  obtain ⟨m, lo, hi, hs, hm, hin⟩ := h
  have HS := Lib.hid hs
  have hp := List.length_pos_iff.2 hne
  have HE := Lib.hid ((hm hne).1 hk4 hk7)
  have HN := Lib.hid hne
  have HK0 := Lib.hid hk0
  have c1 : w.cell? ⟨b, 1, none⟩ = some (.int .i64 l.length) := by rw [cell_of hs]; rfl
  have c0 : w.cell? ⟨b, 0, none⟩ = some (.int .i64 k) := by rw [cell_of hs]; rfl
  have t1 : ((l.length : Int) == 0) = false := by rw [beq_eq_false_iff_ne]; omega
  clear hs hm hin hk0 hk4 hk7 hne
  go_enter Tryd.func15, Tryd.ntmps15
  go_wp2_with fail
  refine (isnone_any b _ _ _ _ _ _ HS.out HK0.out).mono ?_
  rintro e w' ⟨rfl, rfl⟩
  go_wp2_with fail
  refine (hW.out _).mono ?_
  rintro e W1 ⟨c, rfl, hcl, hcs, hcc, b1⟩
  have hs1 : SCel W1 b k l.length m lo hi := HS.out.keep (gb_below (row := none) b1) (by simp)
  clear c0 c1 hcl hcs
  unfold fv
  have hfd : ∀ W : World, (Instr.field 54 (.agg #[.func (.func 43) #[] #[.pointer (some ⟨c, 0, none⟩)], .func (.func 44) #[] #[]]) 1).run Tryd.prog W = .ok (.func (.func 44) #[] #[]) W := fun _ => by kernel_rfl
  go_wp2_with fail
  clear hfd
  refine (join2_any b _ _ _ _ _ W1 hs1).mono ?_
  rintro e W2 ⟨rfl, rfl⟩
  go_wp2
  go_ret2
  exact ⟨by rw [← HE.out, decide_eq_true HN.out]; rfl, b1⟩

set_option maxRecDepth 100000 in
set_option maxHeartbeats 1000000 in
theorem value_count (b : Nat) (l : List Int) (w : World) (h : StP w b 4 l) (hne : l ≠ []) (hl : l.length < 4611686018427387904) :
    Calls Tryd.prog 15 #[.pointer (some ⟨b, 0, none⟩)] w (ValP 4 l w) := by
  obtain ⟨m, lo, hi, hs, hm, hin⟩ := h
  have HS := Lib.hid hs
  have hp := List.length_pos_iff.2 hne
  have HE := Lib.hid (valK_of hne).2.2.2.1
  have HN := Lib.hid hne
  have c1 : w.cell? ⟨b, 1, none⟩ = some (.int .i64 l.length) := by rw [cell_of hs]; rfl
  have c0 : w.cell? ⟨b, 0, none⟩ = some (.int .i64 4) := by rw [cell_of hs]; rfl
  have t1 : ((l.length : Int) == 0) = false := by rw [beq_eq_false_iff_ne]; omega
  clear hs hm hin hne
  go_enter Tryd.func15, Tryd.ntmps15
  go_wp2_with fail
  refine (isnone_any b _ _ _ _ _ _ HS.out (by omega)).mono ?_
  rintro e w' ⟨rfl, rfl⟩
  go_wp2_with fail
  refine (work_count _).mono ?_
  rintro e W1 ⟨rfl, b1⟩
  have hs1 : SCel W1 b 4 l.length m lo hi := HS.out.keep (gb_below (row := none) b1) (by simp)
  clear c0 c1
  unfold fv
  have hfd : ∀ W : World, (Instr.field 54 (.agg #[.func (.func 48) #[] #[], .func (.func 49) #[] #[]]) 1).run Tryd.prog W = .ok (.func (.func 49) #[] #[]) W := fun _ => by kernel_rfl
  go_wp2_with fail
  clear hfd
  refine (count2_any b _ _ _ _ _ W1 hs1).mono ?_
  rintro e W2 ⟨rfl, rfl⟩
  go_wp2
  go_ret2
  exact ⟨by rw [HE.out, decide_eq_true HN.out]; rfl, b1⟩

set_option maxRecDepth 100000 in
set_option maxHeartbeats 1000000 in
theorem value_span (b : Nat) (l : List Int) (w : World) (h : StP w b 7 l) (hne : l ≠ []) (hl : l.length < 4611686018427387904) :
    Calls Tryd.prog 15 #[.pointer (some ⟨b, 0, none⟩)] w (ValP 7 l w) := by
  obtain ⟨m, lo, hi, hs, hm, hin⟩ := h
  have HS := Lib.hid hs
  have hp := List.length_pos_iff.2 hne
  obtain ⟨el, eh⟩ := (hm hne).2 rfl
  have hmin := minL_is l hne
  have hmax := maxL_is l hne
  have HE := Lib.hid (show valK 7 l = if hi - lo ≤ 9223372036854775807 then hi - lo else 9223372036854775807 from by rw [(valK_of hne).2.2.2.2.2.2, el, eh]; rfl)
  have HLO := Lib.hid (show in64 lo by rw [el]; exact hin _ hmin.1)
  have HHI := Lib.hid (show in64 hi by rw [eh]; exact hin _ hmax.1)
  have HLE := Lib.hid (show lo ≤ hi by rw [el, eh]; exact hmin.2 _ hmax.1)
  have HN := Lib.hid hne
  have c1 : w.cell? ⟨b, 1, none⟩ = some (.int .i64 l.length) := by rw [cell_of hs]; rfl
  have c0 : w.cell? ⟨b, 0, none⟩ = some (.int .i64 7) := by rw [cell_of hs]; rfl
  have t1 : ((l.length : Int) == 0) = false := by rw [beq_eq_false_iff_ne]; omega
  clear hs hm hin hne hmin hmax el eh
  go_enter Tryd.func15, Tryd.ntmps15
  go_wp2_with fail
  refine (isnone_any b _ _ _ _ _ _ HS.out (by omega)).mono ?_
  rintro e w' ⟨rfl, rfl⟩
  go_wp2_with fail
  refine (work_span _).mono ?_
  rintro e W1 ⟨rfl, b1⟩
  have hs1 : SCel W1 b 7 l.length m lo hi := HS.out.keep (gb_below (row := none) b1) (by simp)
  clear c0 c1
  unfold fv
  have hfd : ∀ W : World, (Instr.field 54 (.agg #[.func (.func 46) #[] #[], .func (.func 47) #[] #[]]) 1).run Tryd.prog W = .ok (.func (.func 47) #[] #[]) W := fun _ => by kernel_rfl
  go_wp2_with fail
  clear hfd
  refine (span2_any b _ _ _ _ _ W1 hs1 HLO.out HHI.out HLE.out).mono ?_
  rintro e W2 ⟨rfl, d2⟩
  have B2 := bel_gbn b1 b1.size (gb_below d2.below)
  generalize (if hi - lo ≤ 9223372036854775807 then hi - lo else 9223372036854775807) = x at *
  go_wp2
  go_ret2
  exact ⟨by rw [HE.out, decide_eq_true HN.out]; rfl, B2⟩

theorem value_st (b : Nat) (k : Int) (l : List Int) (w : World) (hk : kok k) (h : StP w b k l) (hl : l.length < 4611686018427387904) :
    Calls Tryd.prog 15 #[.pointer (some ⟨b, 0, none⟩)] w (ValP k l w) := by
  by_cases hne : l = []
  · subst hne; exact value_empty b k w hk h
  · rcases kinds hk with rfl | rfl | rfl | rfl | rfl | rfl | rfl
    · exact value_join _ 1 (Lib.hid work_sum) (by omega) (by omega) (by omega) b l w h hne hl
    · exact value_join _ 2 (Lib.hid work_min) (by omega) (by omega) (by omega) b l w h hne hl
    · exact value_join _ 3 (Lib.hid work_max) (by omega) (by omega) (by omega) b l w h hne hl
    · exact value_count b l w h hne hl
    · exact value_join _ 5 (Lib.hid work_fst) (by omega) (by omega) (by omega) b l w h hne hl
    · exact value_join _ 6 (Lib.hid work_lst) (by omega) (by omega) (by omega) b l w h hne hl
    · exact value_span b l w h hne hl

set_option maxHeartbeats 400000 in
theorem len_st (b : Nat) (k : Int) (l : List Int) (w : World) (hk : kok k) (h : StP w b k l) :
    Calls Tryd.prog 19 #[.pointer (some ⟨b, 0, none⟩)] w fun e w' => e = .returned (.int .i64 l.length) ∧ w = w' := by
  obtain ⟨m, lo, hi, hs, _, _⟩ := h
  have HS := Lib.hid hs
  have HK := Lib.hid (show k ≠ 0 by unfold kok at hk; omega)
  have c1 : w.cell? ⟨b, 1, none⟩ = some (.int .i64 l.length) := by rw [cell_of hs]; rfl
  clear hs hk
  go_enter Tryd.func19, Tryd.ntmps19
  go_wp2_with fail
  refine (isnone_any b _ _ _ _ _ _ HS.out HK.out).mono ?_
  rintro e w' ⟨rfl, rfl⟩
  go_wp2
  go_ret
  exact ⟨rfl, rfl⟩


instance (k : Int) : Decidable (kok k) := inferInstanceAs (Decidable (_ ∧ _))
set_option maxHeartbeats 400000 in
theorem aright_any0 (k : Int) (w : World) : Calls Tryd.prog 7 #[.int .i64 k] w fun e w' => e = .returned (.bool (decide (1 ≤ k ∧ k ≤ 7))) ∧ w = w' := by
  by_cases h : 1 ≤ k
  · by_cases h' : k ≤ 7
    all_goals
      go_enter Tryd.func7, Tryd.ntmps7
      go_wp2
      go_ret
      exact ⟨ret_bool (by simp; omega), rfl⟩
  · go_enter Tryd.func7, Tryd.ntmps7
    go_wp2
    go_ret
    exact ⟨ret_bool (by simp; omega), rfl⟩
theorem aright_any (k : Int) (w : World) : Calls Tryd.prog 7 #[.int .i64 k] w fun e w' => e = .returned (.bool (decide (kok k))) ∧ w = w' := aright_any0 k w

def NewK (k : Int) (w : World) (e : Ending) (w' : World) : Prop :=
  ∃ c, e = .returned (.tuple #[.pointer (some ⟨c, 0, none⟩), .int .i64 0]) ∧ w.heap.size ≤ c ∧ StP w' c k [] ∧ Below w.heap.size w w'
set_option maxHeartbeats 400000 in
theorem anew_ok (k : Int) (w : World) (hk : kok k) : Calls Tryd.prog 14 #[.int .i64 k] w (NewK k w) := by
  have HK := Lib.hid hk
  clear hk
  go_enter Tryd.func14, Tryd.ntmps14
  go_wp2_with fail
  refine (aright_any _ _).mono ?_
  rintro e w' ⟨rfl, rfl⟩
  rw [decide_eq_true HK.out]
  go_wp2
  go_ret2
  exact ⟨_, rfl, Nat.le_refl _, ⟨0, 0, 0, heap_new w _, fun h => absurd rfl h, fun x hx => by cases hx⟩, (Below.refl _ _).alloc (Nat.le_refl _) _⟩
set_option maxHeartbeats 400000 in
theorem anew_no (k : Int) (w : World) (hk : ¬ kok k) : Calls Tryd.prog 14 #[.int .i64 k] w fun e w' => e = .returned (.tuple #[.pointer none, .int .i64 1]) ∧ w = w' := by
  have HK := Lib.hid hk
  clear hk
  go_enter Tryd.func14, Tryd.ntmps14
  go_wp2_with fail
  refine (aright_any _ _).mono ?_
  rintro e w' ⟨rfl, rfl⟩
  rw [decide_eq_false HK.out]
  go_wp2
  go_ret2
  exact ⟨rfl, rfl⟩

end Go.Proofs.YtojnalpmibpchaaDoor
