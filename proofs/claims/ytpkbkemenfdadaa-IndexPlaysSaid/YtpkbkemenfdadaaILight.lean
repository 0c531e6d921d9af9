/-
  Contract of law09's light.
-/
import Derived.Test.YtpkbkemenfdadaaIArgs
namespace Go.Proofs.Ytpkbkemenfdadaa
open Go.RowKit
set_option linter.unusedVariables false
set_option linter.unusedSimpArgs false

def shortL (l : List Lb) : Prop := ∀ x ∈ l, x.1.length ≤ 100 ∧ x.2.length ≤ 100
instance (l : List Lb) : Decidable (shortL l) := inferInstanceAs (Decidable (∀ x ∈ l, x.1.length ≤ 100 ∧ x.2.length ≤ 100))
def lightO (q : OpL) : Prop := q.key.length ≤ 100 ∧ q.l.length ≤ 12 ∧ shortL q.l
instance (q : OpL) : Decidable (lightO q) := inferInstanceAs (Decidable (_ ∧ _ ∧ _))
theorem short_snoc9 {l : List Lb} {j : Nat} (hj : j < l.length) (h : shortL (l.take j)) (h1 : (lN l j).length ≤ 100) (h2 : (lV l j).length ≤ 100) : shortL (l.take (j + 1)) := by
  rw [List.take_succ_eq_append_getElem hj, lb_get hj]
  intro x hx
  rcases List.mem_append.1 hx with hx | hx
  · exact h x hx
  · rw [List.mem_singleton] at hx
    subst hx; exact ⟨h1, h2⟩
/-- A call's three cells. -/
def BoxO (w : World) (B : Nat) (k : Int) (key : Tx) (s : Value) : Prop := w.heap[B]? = some (.cells #[.int .i64 k, .string (bs key), s] 34 (0, 0))

set_option maxRecDepth 100000 in
set_option maxHeartbeats 2000000 in
theorem light9_any (q : OpL) (a : Option Addr) (n c : Nat) (w : World) (h : LbAt w a n c q.l) :
    Calls Try.prog 11 #[.agg #[.int .i64 q.k, .string (bs q.key), .slice a n c]] w fun e w' => e = .returned (.bool (decide (lightO q))) ∧ Below w.heap.size w w' := by
  obtain ⟨k, key, l⟩ := q
  have hks := bs_size key
  have hln := h.1
  have h63 := h.2.2.1
  have B1 := (Below.refl w.heap.size w).alloc (Nat.le_refl _) (.cells #[.int .i64 k, .string (bs key), .slice a n c] 34)
  have X1 : BoxO (w.alloc (.cells #[.int .i64 k, .string (bs key), .slice a n c] 34)) w.heap.size k key (.slice a n c) := heap_new w _
  have x1 : (w.alloc (.cells #[.int .i64 k, .string (bs key), .slice a n c] 34)).cell? ⟨w.heap.size, 1, none⟩ = some (.string (bs key)) := by rw [cell_of X1]; rfl
  have x2 : (w.alloc (.cells #[.int .i64 k, .string (bs key), .slice a n c] 34)).cell? ⟨w.heap.size, 2, none⟩ = some (.slice a n c) := by rw [cell_of X1]; rfl
  have HL := Lib.hid (show LbAt _ a n c l from h.keep B1)
  have HB := Lib.hid B1
  have HLN := Lib.hid (show l.length = n from hln)
  obtain ⟨m, hm⟩ : ∃ m, (bs key).size = m := ⟨_, rfl⟩
  have HM := Lib.hid (show m = key.length from by rw [← hm, bs_size])
  clear h B1 X1 hks hln
  by_cases k1 : m ≤ 100
  · by_cases k2 : n ≤ 12
    · have k1z : decide ((100 : Int) < (m : Int)) = false := decide_eq_false (by omega)
      have k1y : ¬ (100 : Int) < (m : Int) := by omega
      have k2y : ¬ (12 : Int) < (n : Int) := by omega
      have HZ := Lib.hid (show shortL (l.take 0) from fun x hx => by simp at hx)
      go_enter Try.func11, Try.ntmps11
      go_wp2_with fail
      generalize hW : w.alloc (.cells #[.int .i64 k, .string (bs key), .slice a n c] 34) = W1 at *
      clear hW
      go_loopw [3] (fun vi wr => ∃ j : Nat, vi = .int .i64 (j : Int) ∧ j ≤ n ∧ Hid (shortL (l.take j)) ∧ W1 = wr) (fun vi _ => n - (intOf vi).toNat)
      case atStart => exact ⟨0, rfl, Nat.zero_le _, HZ, rfl⟩
      case round =>
        obtain ⟨j, rfl, hj, HS, rfl⟩ := hrel
        clear HZ
        by_cases hjn : j < n
        · have hjz : (j : Int) < (n : Int) := by omega
          have hj0 : (0 : Int) ≤ (j : Int) := by omega
          obtain ⟨pb, po, e1, hpb, y0, y1⟩ := HL.out.at_ j hjn
          subst e1
          have HSN := Lib.hid (short_snoc9 (l := l) (j := j) (by rw [HLN.out]; exact hjn) HS.out)
          have HMem := Lib.hid (show (lN l j, lV l j) ∈ l from lb_mem (by rw [HLN.out]; exact hjn))
          obtain ⟨p, hp⟩ : ∃ p, (bs (lN l j)).size = p := ⟨_, rfl⟩
          obtain ⟨r, hr⟩ : ∃ r, (bs (lV l j)).size = r := ⟨_, rfl⟩
          have HP := Lib.hid (show p = (lN l j).length from by rw [← hp, bs_size])
          have HR := Lib.hid (show r = (lV l j).length from by rw [← hr, bs_size])
          generalize bs (lN l j) = sN at *
          generalize bs (lV l j) = sV at *
          by_cases p1 : p ≤ 100
          · by_cases p2 : r ≤ 100
            · have p1z : ¬ (100 : Int) < (p : Int) := by omega
              have p2z : ¬ (100 : Int) < (r : Int) := by omega
              have HS2 := Lib.hid (HSN.out (by rw [← HP.out]; exact p1) (by rw [← HR.out]; exact p2))
              clear HS
              go_wp2
              go_roundw
              case rel => exact ⟨j + 1, by go_num, by omega, HS2, by first | rfl | trivial⟩
              case measure => simp [intOf]; omega
            · have p1z : ¬ (100 : Int) < (p : Int) := by omega
              have p2z : (100 : Int) < (r : Int) := by omega
              go_wp2
              go_ret
              exact ⟨ret_bool (decide_eq_false (fun hh => p2 (by rw [HR.out]; exact (hh.2.2 _ HMem.out).2))).symm, HB.out⟩
          · have p1z : (100 : Int) < (p : Int) := by omega
            go_wp2
            go_ret
            exact ⟨ret_bool (decide_eq_false (fun hh => p1 (by rw [HP.out]; exact (hh.2.2 _ HMem.out).1))).symm, HB.out⟩
        · have hjz : ¬ (j : Int) < (n : Int) := by omega
          obtain rfl : j = n := by omega
          rw [List.take_of_length_le (by rw [HLN.out]; exact Nat.le_refl _)] at HS
          go_wp2
          go_ret
          exact ⟨ret_bool (decide_eq_true (show lightO ⟨k, key, l⟩ from ⟨by rw [HM.out] at k1; exact k1, by rw [← HLN.out] at k2; exact k2, HS.out⟩)).symm, HB.out⟩
    · have k1y : ¬ (100 : Int) < (m : Int) := by omega
      have k2y : (12 : Int) < (n : Int) := by omega
      go_enter Try.func11, Try.ntmps11
      go_wp2
      go_ret
      exact ⟨ret_bool (decide_eq_false (fun hh => k2 (by have := hh.2.1; rw [HLN.out] at this; exact this))).symm, HB.out⟩
  · have k1y : (100 : Int) < (m : Int) := by omega
    go_enter Try.func11, Try.ntmps11
    go_wp2
    go_ret
    exact ⟨ret_bool (decide_eq_false (fun hh => k1 (by rw [HM.out]; exact hh.1))).symm, HB.out⟩

end Go.Proofs.Ytpkbkemenfdadaa
