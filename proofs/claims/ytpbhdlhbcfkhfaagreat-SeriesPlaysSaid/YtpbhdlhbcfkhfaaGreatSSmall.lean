/-
  Small contracts of package series: isNone, list, Max, Line, Retention, Policy, canKeep, New; of one that is nil, or that New did not give.
-/
import Derived.Test.YtpbhdlhbcfkhfaaGreatSPut
namespace Go.Proofs.YtpbhdlhbcfkhfaaGreat
open Go.RowKit
set_option linter.unusedVariables false
set_option linter.unusedSimpArgs false

/-- A series of zeros. -/
def ZSer (w : World) (b : Nat) : Prop := w.heap[b]? = some (.cells #[.int .i64 0, .int .i64 0, .int .i64 0, .int .i64 0, .int .i64 0, .slice none 0 0] 52 (0, 0))
theorem ZSer.keep {w w' : World} {b : Nat} (h : ZSer w b) (g : w.grownBy w' none) : ZSer w' b := (g.block b (heap_lt h) (by simp)).trans h
theorem ZSer.keepB {w w' : World} {b : Nat} (h : ZSer w b) (g : Below w.heap.size w w') : ZSer w' b := h.keep (gb_below g)

theorem sNone_nil (w : World) : Calls Tryz.prog 21 #[.pointer none] w fun e w' => e = .returned (.bool true) ∧ w = w' := by
  go_enter Tryz.func21, Tryz.ntmps21
  go_wp2
  go_ret
  exact ⟨rfl, rfl⟩
theorem sNone_zero (b : Nat) (w : World) (hc : ZSer w b) : Calls Tryz.prog 21 #[.pointer (some ⟨b, 0, none⟩)] w fun e w' => e = .returned (.bool true) ∧ w = w' := by
  have c0 : w.cell? ⟨b, 0, none⟩ = some (.int .i64 0) := by rw [cell_of hc]; rfl
  clear hc
  go_enter Tryz.func21, Tryz.ntmps21
  go_wp2
  go_ret
  exact ⟨rfl, rfl⟩
theorem sNone_no (b : Nat) (sz ret pol mx line : Int) (v : Value) (w : World) (hc : SCell w b sz ret pol mx line v) (h : 1 ≤ sz) :
    Calls Tryz.prog 21 #[.pointer (some ⟨b, 0, none⟩)] w fun e w' => e = .returned (.bool false) ∧ w = w' := by
  have c0 : w.cell? ⟨b, 0, none⟩ = some (.int .i64 sz) := by rw [cell_of hc]; rfl
  have hne : (sz == 0) = false := by rw [beq_eq_false_iff_ne]; omega
  clear hc
  go_enter Tryz.func21, Tryz.ntmps21
  go_wp2
  go_ret
  exact ⟨rfl, rfl⟩
theorem smax_nil (w : World) : Calls Tryz.prog 39 #[.pointer none] w fun e w' => e = .returned (.int .i64 (-1)) ∧ w = w' := by
  go_enter Tryz.func39, Tryz.ntmps39
  go_wp2_with fail
  refine (sNone_nil _).mono ?_
  rintro e w' ⟨rfl, rfl⟩
  go_wp2
  go_ret
  exact ⟨rfl, rfl⟩
theorem smax_zero (b : Nat) (w : World) (hc : ZSer w b) : Calls Tryz.prog 39 #[.pointer (some ⟨b, 0, none⟩)] w fun e w' => e = .returned (.int .i64 (-1)) ∧ w = w' := by
  go_enter Tryz.func39, Tryz.ntmps39
  go_wp2_with fail
  refine (sNone_zero b _ hc).mono ?_
  rintro e w' ⟨rfl, rfl⟩
  go_wp2
  go_ret
  exact ⟨rfl, rfl⟩
theorem smax_cell (b : Nat) (sz ret pol mx line : Int) (v : Value) (w : World) (hc : SCell w b sz ret pol mx line v) (h : 1 ≤ sz) :
    Calls Tryz.prog 39 #[.pointer (some ⟨b, 0, none⟩)] w fun e w' => e = .returned (.int .i64 mx) ∧ w = w' := by
  have HC := Lib.hid hc
  have c1 : w.cell? ⟨b, 3, none⟩ = some (.int .i64 mx) := by rw [cell_of hc]; rfl
  clear hc
  go_enter Tryz.func39, Tryz.ntmps39
  go_wp2_with fail
  refine (sNone_no b sz ret pol mx line _ _ HC.out h).mono ?_
  rintro e w' ⟨rfl, rfl⟩
  go_wp2
  go_ret
  exact ⟨rfl, rfl⟩
theorem sline_nil (w : World) : Calls Tryz.prog 40 #[.pointer none] w fun e w' => e = .returned (.int .i64 0) ∧ w = w' := by
  go_enter Tryz.func40, Tryz.ntmps40
  go_wp2_with fail
  refine (sNone_nil _).mono ?_
  rintro e w' ⟨rfl, rfl⟩
  go_wp2
  go_ret
  exact ⟨rfl, rfl⟩
theorem sline_zero (b : Nat) (w : World) (hc : ZSer w b) : Calls Tryz.prog 40 #[.pointer (some ⟨b, 0, none⟩)] w fun e w' => e = .returned (.int .i64 0) ∧ w = w' := by
  go_enter Tryz.func40, Tryz.ntmps40
  go_wp2_with fail
  refine (sNone_zero b _ hc).mono ?_
  rintro e w' ⟨rfl, rfl⟩
  go_wp2
  go_ret
  exact ⟨rfl, rfl⟩
theorem sline_cell (b : Nat) (sz ret pol mx line : Int) (v : Value) (w : World) (hc : SCell w b sz ret pol mx line v) (h : 1 ≤ sz) :
    Calls Tryz.prog 40 #[.pointer (some ⟨b, 0, none⟩)] w fun e w' => e = .returned (.int .i64 line) ∧ w = w' := by
  have HC := Lib.hid hc
  have c1 : w.cell? ⟨b, 4, none⟩ = some (.int .i64 line) := by rw [cell_of hc]; rfl
  clear hc
  go_enter Tryz.func40, Tryz.ntmps40
  go_wp2_with fail
  refine (sNone_no b sz ret pol mx line _ _ HC.out h).mono ?_
  rintro e w' ⟨rfl, rfl⟩
  go_wp2
  go_ret
  exact ⟨rfl, rfl⟩
theorem sret_nil (w : World) : Calls Tryz.prog 42 #[.pointer none] w fun e w' => e = .returned (.int .i64 0) ∧ w = w' := by
  go_enter Tryz.func42, Tryz.ntmps42
  go_wp2_with fail
  refine (sNone_nil _).mono ?_
  rintro e w' ⟨rfl, rfl⟩
  go_wp2
  go_ret
  exact ⟨rfl, rfl⟩
theorem sret_zero (b : Nat) (w : World) (hc : ZSer w b) : Calls Tryz.prog 42 #[.pointer (some ⟨b, 0, none⟩)] w fun e w' => e = .returned (.int .i64 0) ∧ w = w' := by
  go_enter Tryz.func42, Tryz.ntmps42
  go_wp2_with fail
  refine (sNone_zero b _ hc).mono ?_
  rintro e w' ⟨rfl, rfl⟩
  go_wp2
  go_ret
  exact ⟨rfl, rfl⟩
theorem sret_cell (b : Nat) (sz ret pol mx line : Int) (v : Value) (w : World) (hc : SCell w b sz ret pol mx line v) (h : 1 ≤ sz) :
    Calls Tryz.prog 42 #[.pointer (some ⟨b, 0, none⟩)] w fun e w' => e = .returned (.int .i64 ret) ∧ w = w' := by
  have HC := Lib.hid hc
  have c1 : w.cell? ⟨b, 1, none⟩ = some (.int .i64 ret) := by rw [cell_of hc]; rfl
  clear hc
  go_enter Tryz.func42, Tryz.ntmps42
  go_wp2_with fail
  refine (sNone_no b sz ret pol mx line _ _ HC.out h).mono ?_
  rintro e w' ⟨rfl, rfl⟩
  go_wp2
  go_ret
  exact ⟨rfl, rfl⟩
theorem spol_nil (w : World) : Calls Tryz.prog 43 #[.pointer none] w fun e w' => e = .returned (.int .i64 0) ∧ w = w' := by
  go_enter Tryz.func43, Tryz.ntmps43
  go_wp2_with fail
  refine (sNone_nil _).mono ?_
  rintro e w' ⟨rfl, rfl⟩
  go_wp2
  go_ret
  exact ⟨rfl, rfl⟩
theorem spol_zero (b : Nat) (w : World) (hc : ZSer w b) : Calls Tryz.prog 43 #[.pointer (some ⟨b, 0, none⟩)] w fun e w' => e = .returned (.int .i64 0) ∧ w = w' := by
  go_enter Tryz.func43, Tryz.ntmps43
  go_wp2_with fail
  refine (sNone_zero b _ hc).mono ?_
  rintro e w' ⟨rfl, rfl⟩
  go_wp2
  go_ret
  exact ⟨rfl, rfl⟩
theorem spol_cell (b : Nat) (sz ret pol mx line : Int) (v : Value) (w : World) (hc : SCell w b sz ret pol mx line v) (h : 1 ≤ sz) :
    Calls Tryz.prog 43 #[.pointer (some ⟨b, 0, none⟩)] w fun e w' => e = .returned (.int .i64 pol) ∧ w = w' := by
  have HC := Lib.hid hc
  have c1 : w.cell? ⟨b, 2, none⟩ = some (.int .i64 pol) := by rw [cell_of hc]; rfl
  clear hc
  go_enter Tryz.func43, Tryz.ntmps43
  go_wp2_with fail
  refine (sNone_no b sz ret pol mx line _ _ HC.out h).mono ?_
  rintro e w' ⟨rfl, rfl⟩
  go_wp2
  go_ret
  exact ⟨rfl, rfl⟩
theorem slist_nil (w : World) : Calls Tryz.prog 30 #[.pointer none] w fun e w' => e = .returned (.slice none 0 0) ∧ w = w' := by
  go_enter Tryz.func30, Tryz.ntmps30
  go_wp2_with fail
  refine (sNone_nil _).mono ?_
  rintro e w' ⟨rfl, rfl⟩
  go_wp2
  go_ret
  exact ⟨rfl, rfl⟩
theorem slist_zero (b : Nat) (w : World) (hc : ZSer w b) : Calls Tryz.prog 30 #[.pointer (some ⟨b, 0, none⟩)] w fun e w' => e = .returned (.slice none 0 0) ∧ w = w' := by
  go_enter Tryz.func30, Tryz.ntmps30
  go_wp2_with fail
  refine (sNone_zero b _ hc).mono ?_
  rintro e w' ⟨rfl, rfl⟩
  go_wp2
  go_ret
  exact ⟨rfl, rfl⟩
theorem slist_cell (b : Nat) (sz ret pol mx line : Int) (a : Option Addr) (len cap : Nat) (w : World) (hc : SCell w b sz ret pol mx line (.slice a len cap)) (h : 1 ≤ sz) :
    Calls Tryz.prog 30 #[.pointer (some ⟨b, 0, none⟩)] w fun e w' => e = .returned (.slice a len cap) ∧ w = w' := by
  have HC := Lib.hid hc
  have c1 : w.cell? ⟨b, 5, none⟩ = some (.slice a len cap) := by rw [cell_of hc]; rfl
  clear hc
  go_enter Tryz.func30, Tryz.ntmps30
  go_wp2_with fail
  refine (sNone_no b sz ret pol mx line _ _ HC.out h).mono ?_
  rintro e w' ⟨rfl, rfl⟩
  go_wp2
  go_ret
  exact ⟨rfl, rfl⟩
theorem smax_ok (b : Nat) (sz : Int) (s : Ser) (w : World) (h : SerAt w b sz s) (hs : 1 ≤ sz) : Calls Tryz.prog 39 #[.pointer (some ⟨b, 0, none⟩)] w fun e w' => e = .returned (.int .i64 s.mx) ∧ w = w' := by
  obtain ⟨v, hv⟩ := h.cell
  exact smax_cell b sz _ _ _ _ v w hv hs
theorem sline_ok (b : Nat) (sz : Int) (s : Ser) (w : World) (h : SerAt w b sz s) (hs : 1 ≤ sz) : Calls Tryz.prog 40 #[.pointer (some ⟨b, 0, none⟩)] w fun e w' => e = .returned (.int .i64 s.line) ∧ w = w' := by
  obtain ⟨v, hv⟩ := h.cell
  exact sline_cell b sz _ _ _ _ v w hv hs
theorem sret_ok (b : Nat) (sz : Int) (s : Ser) (w : World) (h : SerAt w b sz s) (hs : 1 ≤ sz) : Calls Tryz.prog 42 #[.pointer (some ⟨b, 0, none⟩)] w fun e w' => e = .returned (.int .i64 s.ret) ∧ w = w' := by
  obtain ⟨v, hv⟩ := h.cell
  exact sret_cell b sz _ _ _ _ v w hv hs
theorem spol_ok (b : Nat) (sz : Int) (s : Ser) (w : World) (h : SerAt w b sz s) (hs : 1 ≤ sz) : Calls Tryz.prog 43 #[.pointer (some ⟨b, 0, none⟩)] w fun e w' => e = .returned (.int .i64 s.pol) ∧ w = w' := by
  obtain ⟨v, hv⟩ := h.cell
  exact spol_cell b sz _ _ _ _ v w hv hs

set_option maxHeartbeats 400000 in
theorem sright_any (p : Int) (w : World) :
    Calls Tryz.prog 22 #[.int .i64 p] w fun e w' => e = .returned (.bool (decide (1 ≤ p ∧ p ≤ 6))) ∧ w = w' := by
  by_cases h : 1 ≤ p
  · by_cases h' : p ≤ 6
    all_goals
      go_enter Tryz.func22, Tryz.ntmps22
      go_wp2
      go_ret
      exact ⟨ret_bool (by simp; omega), rfl⟩
  · go_enter Tryz.func22, Tryz.ntmps22
    go_wp2
    go_ret
    exact ⟨ret_bool (by simp; omega), rfl⟩
theorem sright_is (p : Int) (r : Bool) (w : World) (h : decide (1 ≤ p ∧ p ≤ 6) = r) :
    Calls Tryz.prog 22 #[.int .i64 p] w fun e w' => e = .returned (.bool r) ∧ w = w' := by
  subst h; exact sright_any p w
theorem canKeep_any (ret p : Int) (r : Bool) (w : World) (h : decide (keepB ret p) = r) : Calls Tryz.prog 19 #[.int .i64 ret, .int .i64 p] w fun e w' => e = .returned (.bool r) ∧ w = w' := by
  obtain ⟨q, hq⟩ : ∃ q, decide (1 ≤ p ∧ p ≤ 6) = q := ⟨_, rfl⟩
  have HQ := Lib.hid hq
  have HR : Hid (∀ x : Bool, (x = true ↔ ((0 ≤ ret ∧ ret ≤ 1099511627776) ∧ q = true)) → x = r) := Lib.hid (fun x hx => by
    rw [← h, Bool.eq_iff_iff, hx, ← hq, decide_eq_true_iff, decide_eq_true_iff]; exact Iff.rfl)
  clear hq h
  by_cases h1 : 0 ≤ ret
  · by_cases h2 : ret ≤ 1099511627776
    · go_enter Tryz.func19, Tryz.ntmps19
      go_wp2_with fail
      refine (sright_is p q _ HQ.out).mono ?_
      rintro e w' ⟨rfl, rfl⟩
      go_wp2
      go_ret
      exact ⟨ret_bool (HR.out _ (by simp [h1, h2])), rfl⟩
    · go_enter Tryz.func19, Tryz.ntmps19
      go_wp2
      go_ret
      exact ⟨ret_bool (HR.out _ (by simp; omega)), rfl⟩
  · go_enter Tryz.func19, Tryz.ntmps19
    go_wp2
    go_ret
    exact ⟨ret_bool (HR.out _ (by simp; omega)), rfl⟩

def newSer (ret p : Int) : Ser := ⟨ret, p, -1, 0, []⟩
theorem Std.new {ret p : Int} (h : keepB ret p) : Std (newSer ret p) :=
  ⟨h.1.1, h.1.2, h.2.1, h.2.2, by show (-1 : Int) ≤ -1; omega, by show (-1 : Int) < _; omega, by show (0 : Int) ≤ 0; omega, by show (0 : Int) ≤ max 0 (-1); omega, .inr (by show (-1 : Int) - ret ≤ 0; have := h.1.1; omega), rising_nil, all64_nil, fun x hx => by simp [newSer] at hx, fun x hx => by simp [newSer] at hx⟩
def SNewP (sz ret p : Int) (w : World) (e : Ending) (w' : World) : Prop := e = .returned (.tuple #[.pointer (some ⟨w'.heap.size - 1, 0, none⟩), .int .i64 0]) ∧ SerAt w' (w'.heap.size - 1) sz (newSer ret p) ∧ w.heap.size ≤ w'.heap.size - 1 ∧ Below w.heap.size w w'
theorem snew_ok (sz ret p : Int) (w : World) (hs : 128 ≤ sz) (hs2 : sz ≤ 4096) (hk : keepB ret p) :
    Calls Tryz.prog 4 #[.int .i64 sz, .int .i64 ret, .int .i64 p] w (SNewP sz ret p w) := by
  have HK := Lib.hid (decide_eq_true hk)
  clear hk
  go_enter Tryz.func4, Tryz.ntmps4
  go_wp2_with fail
  refine (cnew_at sz w hs hs2).mono ?_
  rintro e W1 ⟨rfl, _, b1, _⟩
  go_wp2_with fail
  refine (canKeep_any ret p true _ HK.out).mono ?_
  rintro e w' ⟨rfl, rfl⟩
  have HN := Lib.hid (heap_new W1 (.cells #[.int .i64 sz, .int .i64 ret, .int .i64 p, .int .i64 (-1), .int .i64 0, .slice none 0 0] 52))
  have HB := Lib.hid (b1.alloc b1.size (.cells #[.int .i64 sz, .int .i64 ret, .int .i64 p, .int .i64 (-1), .int .i64 0, .slice none 0 0] 52))
  have HS := Lib.hid b1.size
  clear b1
  go_wp2
  go_ret2
  refine ⟨by simp, ⟨[], ⟨none, 0, ?_, Ptrs.nil _, fun x hx => by cases hx⟩, good_nil sz, rfl⟩, ?_, HB.out⟩
  · rw [World.size_alloc, Nat.add_sub_cancel]; exact HN.out
  · rw [World.size_alloc, Nat.add_sub_cancel]; exact HS.out
theorem snew_bad (sz ret p : Int) (w : World) (h : ¬ ((128 ≤ sz ∧ sz ≤ 4096) ∧ keepB ret p)) :
    Calls Tryz.prog 4 #[.int .i64 sz, .int .i64 ret, .int .i64 p] w fun e w' => e = .returned (.tuple #[.pointer none, .int .i64 1]) ∧ Below w.heap.size w w' := by
  by_cases hs : 128 ≤ sz ∧ sz ≤ 4096
  · have HK := Lib.hid (show decide (keepB ret p) = false from decide_eq_false (fun hk => h ⟨hs, hk⟩))
    clear h
    go_enter Tryz.func4, Tryz.ntmps4
    go_wp2_with fail
    refine (cnew_at sz w hs.1 hs.2).mono ?_
    rintro e W1 ⟨rfl, _, b1, _⟩
    go_wp2_with fail
    refine (canKeep_any ret p false _ HK.out).mono ?_
    rintro e w' ⟨rfl, rfl⟩
    go_wp2
    go_ret2
    exact ⟨rfl, b1⟩
  · go_enter Tryz.func4, Tryz.ntmps4
    go_wp2_with fail
    refine (cnew_bad sz w hs).mono ?_
    rintro e W1 ⟨rfl, rfl⟩
    go_wp2
    go_ret2
    exact ⟨rfl, Below.refl _ _⟩

end Go.Proofs.YtpbhdlhbcfkhfaaGreat
