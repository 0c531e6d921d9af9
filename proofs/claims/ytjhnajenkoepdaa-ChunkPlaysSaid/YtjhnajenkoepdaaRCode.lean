/-
  Contract of the document's own answer for layer 2: Code: a number's code, bit by bit.
-/
import Derived.Test.YtjhnajenkoepdaaRBits
import Derived.Test.YtjhnajenkoepdaaDMath
namespace Go.Proofs.Ytjhnajenkoepdaa
open Go.RowKit
set_option linter.unusedVariables false
set_option linter.unusedSimpArgs false

theorem own_lit (W : World) (base : Nat) (l : List Bool) (hb : base ≤ W.heap.size) (hl : l.length ≤ 64) :
    (W.alloc (.cells (bv l).toArray 4)).ownsRow base 4 1 (.slice (some ⟨W.heap.size, 0, none⟩) l.length l.length) l.length (bv l) :=
  ⟨by rw [bv_length, Nat.mul_one], .inr ⟨W.heap.size, l.length, _, rfl, hb, heap_new W _, Nat.le_refl _, by unfold maxLen; omega, by simp [bv], by
    rw [Nat.mul_one]; exact List.take_of_length_le (by simp [bv])⟩⟩
theorem bv_ones (l : List Bool) : ∀ u ∈ bv l, u.oneCell' = true := by
  intro u hu
  simp [bv] at hu
  rcases hu with ⟨_, rfl⟩ | ⟨_, rfl⟩ <;> rfl

set_option maxRecDepth 100000 in
set_option maxHeartbeats 2000000 in
theorem rcode_any (u : Nat) (w : World) (hu : u < 18446744073709551616) :
    Calls Try.prog 55 #[.int .u64 (u : Int)] w (BitsP (code u) w) := by
  obtain ⟨i0, hi, hz0, hz1, hz2⟩ := info_parts info_bool
  rcases (show u = 0 ∨ (u ≠ 0 ∧ u ≤ 127) ∨ (¬ u ≤ 127 ∧ u ≤ 4095) ∨ (¬ u ≤ 4095 ∧ u ≤ 16777215) ∨ ¬ u ≤ 16777215 by omega) with h | h | h | h | h
  · subst h
    go_enter Try.func55, Try.ntmps55
    go_wp2
    go_ret
    exact ⟨_, rfl, own_lit w w.heap.size [false] (Nat.le_refl _) (by decide), (Below.refl _ w).alloc (Nat.le_refl _) _⟩
  · have HCO := Lib.hid (show code u = [true, false] ++ bitsOf u 7 from by
      have : onesN u = 1 := by unfold onesN; rw [if_neg h.1, if_pos (by omega)]
      rw [code, this]; rfl)
    have t0 : ((u : Int) == 0) = false := by rw [beq_eq_false_iff_ne]; omega
    have t1 : (u : Int) ≤ 127 := by omega
    clear h
    go_enter Try.func55, Try.ntmps55
    go_wp2_with fail
    have B1 := (Below.refl w.heap.size w).alloc (Nat.le_refl _) (.cells #[.bool true, .bool false] 4)
    have o1 := own_lit w w.heap.size [true, false] (Nat.le_refl _) (by decide)
    have s1 : w.heap.size ≤ (w.alloc (.cells #[.bool true, .bool false] 4)).heap.size := by simp
    replace o1 : (w.alloc (.cells #[.bool true, .bool false] 4)).ownsRow w.heap.size 4 1 (.slice (some ⟨w.heap.size, 0, none⟩) 2 2) 2 (bv [true, false]) := o1
    generalize w.alloc (.cells #[.bool true, .bool false] 4) = W1 at *
    have hb := rbits_any u 7 W1 hu (by decide)
    rw [show ((7 : Nat) : Int) = 7 from rfl] at hb
    refine hb.mono ?_
    clear hb
    rintro e W2 ⟨v, rfl, hv, b2⟩
    rw [bitsOf_length] at hv
    obtain ⟨g, cp, rfl, hcells, hg⟩ := owns_cells hv (by omega)
    have o2 := o1.kept (gb_below (row := none) b2) (by simp; exact Classical.em _)
    have B2 := bel_gbn B1 s1 (gb_below b2)
    have s2 := Nat.le_trans s1 b2.size
    have HL := Lib.hid (show (bv (bitsOf u 7)).length = 7 * 1 from by rw [bv_length, bitsOf_length])
    have HO := Lib.hid (bv_ones (bitsOf u 7))
    have HCL := Lib.hid hcells
    have HBV := Lib.hid (show bv (code u) = bv [true, false] ++ bv (bitsOf u 7) from by rw [HCO.out, bv_append])
    have HLN := Lib.hid (show (code u).length = 2 + 7 from by rw [HCO.out, List.length_append, bitsOf_length]; rfl)
    clear o1 B1 s1 b2 hv hcells
    generalize bv (bitsOf u 7) = news at *
    go_wp2_with (at_builtin; refine wpList_append_own _ rfl _ _ 72 rfl w.heap.size 4 i0 _ 1 1 Try.underlying72 hi hz0 hz1 hz2 rfl (by decide) _ _ _ rfl o2 ⟨g, 0, none⟩ 7 cp news rfl HL.out HCL.out HO.out (by unfold maxLen; omega) (by omega) s2 ?_)
    intro v3 W3 o3 g3 _
    have B3 := B2.grown g3 s2 (fun k hk => (o2.lt k hk).1)
    clear o2 g3 B2 s2 hi hz0 hz1 hz2
    go_wp2
    go_ret
    exact ⟨v3, rfl, by rw [HBV.out, HLN.out]; exact o3, B3⟩
  · have HCO := Lib.hid (show code u = [true, true, false] ++ bitsOf u 12 from by
      have : onesN u = 2 := by unfold onesN; rw [if_neg (by omega), if_neg (by omega), if_pos (by omega)]
      rw [code, this]; rfl)
    have t0 : ((u : Int) == 0) = false := by rw [beq_eq_false_iff_ne]; omega
    have t1 : ¬ (u : Int) ≤ 127 := by omega
    have t2 : (u : Int) ≤ 4095 := by omega
    clear h
    go_enter Try.func55, Try.ntmps55
    go_wp2_with fail
    have B1 := (Below.refl w.heap.size w).alloc (Nat.le_refl _) (.cells #[.bool true, .bool true, .bool false] 4)
    have o1 := own_lit w w.heap.size [true, true, false] (Nat.le_refl _) (by decide)
    have s1 : w.heap.size ≤ (w.alloc (.cells #[.bool true, .bool true, .bool false] 4)).heap.size := by simp
    replace o1 : (w.alloc (.cells #[.bool true, .bool true, .bool false] 4)).ownsRow w.heap.size 4 1 (.slice (some ⟨w.heap.size, 0, none⟩) 3 3) 3 (bv [true, true, false]) := o1
    generalize w.alloc (.cells #[.bool true, .bool true, .bool false] 4) = W1 at *
    have hb := rbits_any u 12 W1 hu (by decide)
    rw [show ((12 : Nat) : Int) = 12 from rfl] at hb
    refine hb.mono ?_
    clear hb
    rintro e W2 ⟨v, rfl, hv, b2⟩
    rw [bitsOf_length] at hv
    obtain ⟨g, cp, rfl, hcells, hg⟩ := owns_cells hv (by omega)
    have o2 := o1.kept (gb_below (row := none) b2) (by simp; exact Classical.em _)
    have B2 := bel_gbn B1 s1 (gb_below b2)
    have s2 := Nat.le_trans s1 b2.size
    have HL := Lib.hid (show (bv (bitsOf u 12)).length = 12 * 1 from by rw [bv_length, bitsOf_length])
    have HO := Lib.hid (bv_ones (bitsOf u 12))
    have HCL := Lib.hid hcells
    have HBV := Lib.hid (show bv (code u) = bv [true, true, false] ++ bv (bitsOf u 12) from by rw [HCO.out, bv_append])
    have HLN := Lib.hid (show (code u).length = 3 + 12 from by rw [HCO.out, List.length_append, bitsOf_length]; rfl)
    clear o1 B1 s1 b2 hv hcells
    generalize bv (bitsOf u 12) = news at *
    go_wp2_with (at_builtin; refine wpList_append_own _ rfl _ _ 72 rfl w.heap.size 4 i0 _ 1 1 Try.underlying72 hi hz0 hz1 hz2 rfl (by decide) _ _ _ rfl o2 ⟨g, 0, none⟩ 12 cp news rfl HL.out HCL.out HO.out (by unfold maxLen; omega) (by omega) s2 ?_)
    intro v3 W3 o3 g3 _
    have B3 := B2.grown g3 s2 (fun k hk => (o2.lt k hk).1)
    clear o2 g3 B2 s2 hi hz0 hz1 hz2
    go_wp2
    go_ret
    exact ⟨v3, rfl, by rw [HBV.out, HLN.out]; exact o3, B3⟩
  · have HCO := Lib.hid (show code u = [true, true, true, false] ++ bitsOf u 24 from by
      have : onesN u = 3 := by unfold onesN; rw [if_neg (by omega), if_neg (by omega), if_neg (by omega), if_pos (by omega)]
      rw [code, this]; rfl)
    have t0 : ((u : Int) == 0) = false := by rw [beq_eq_false_iff_ne]; omega
    have t1 : ¬ (u : Int) ≤ 127 := by omega
    have t2 : ¬ (u : Int) ≤ 4095 := by omega
    have t3 : (u : Int) ≤ 16777215 := by omega
    clear h
    go_enter Try.func55, Try.ntmps55
    go_wp2_with fail
    have B1 := (Below.refl w.heap.size w).alloc (Nat.le_refl _) (.cells #[.bool true, .bool true, .bool true, .bool false] 4)
    have o1 := own_lit w w.heap.size [true, true, true, false] (Nat.le_refl _) (by decide)
    have s1 : w.heap.size ≤ (w.alloc (.cells #[.bool true, .bool true, .bool true, .bool false] 4)).heap.size := by simp
    replace o1 : (w.alloc (.cells #[.bool true, .bool true, .bool true, .bool false] 4)).ownsRow w.heap.size 4 1 (.slice (some ⟨w.heap.size, 0, none⟩) 4 4) 4 (bv [true, true, true, false]) := o1
    generalize w.alloc (.cells #[.bool true, .bool true, .bool true, .bool false] 4) = W1 at *
    have hb := rbits_any u 24 W1 hu (by decide)
    rw [show ((24 : Nat) : Int) = 24 from rfl] at hb
    refine hb.mono ?_
    clear hb
    rintro e W2 ⟨v, rfl, hv, b2⟩
    rw [bitsOf_length] at hv
    obtain ⟨g, cp, rfl, hcells, hg⟩ := owns_cells hv (by omega)
    have o2 := o1.kept (gb_below (row := none) b2) (by simp; exact Classical.em _)
    have B2 := bel_gbn B1 s1 (gb_below b2)
    have s2 := Nat.le_trans s1 b2.size
    have HL := Lib.hid (show (bv (bitsOf u 24)).length = 24 * 1 from by rw [bv_length, bitsOf_length])
    have HO := Lib.hid (bv_ones (bitsOf u 24))
    have HCL := Lib.hid hcells
    have HBV := Lib.hid (show bv (code u) = bv [true, true, true, false] ++ bv (bitsOf u 24) from by rw [HCO.out, bv_append])
    have HLN := Lib.hid (show (code u).length = 4 + 24 from by rw [HCO.out, List.length_append, bitsOf_length]; rfl)
    clear o1 B1 s1 b2 hv hcells
    generalize bv (bitsOf u 24) = news at *
    go_wp2_with (at_builtin; refine wpList_append_own _ rfl _ _ 72 rfl w.heap.size 4 i0 _ 1 1 Try.underlying72 hi hz0 hz1 hz2 rfl (by decide) _ _ _ rfl o2 ⟨g, 0, none⟩ 24 cp news rfl HL.out HCL.out HO.out (by unfold maxLen; omega) (by omega) s2 ?_)
    intro v3 W3 o3 g3 _
    have B3 := B2.grown g3 s2 (fun k hk => (o2.lt k hk).1)
    clear o2 g3 B2 s2 hi hz0 hz1 hz2
    go_wp2
    go_ret
    exact ⟨v3, rfl, by rw [HBV.out, HLN.out]; exact o3, B3⟩
  · have HCO := Lib.hid (show code u = [true, true, true, true] ++ bitsOf u 64 from by
      have : onesN u = 4 := by unfold onesN; rw [if_neg (by omega), if_neg (by omega), if_neg (by omega), if_neg (by omega)]
      rw [code, this]; rfl)
    have t0 : ((u : Int) == 0) = false := by rw [beq_eq_false_iff_ne]; omega
    have t1 : ¬ (u : Int) ≤ 127 := by omega
    have t2 : ¬ (u : Int) ≤ 4095 := by omega
    have t3 : ¬ (u : Int) ≤ 16777215 := by omega
    clear h
    go_enter Try.func55, Try.ntmps55
    go_wp2_with fail
    have B1 := (Below.refl w.heap.size w).alloc (Nat.le_refl _) (.cells #[.bool true, .bool true, .bool true, .bool true] 4)
    have o1 := own_lit w w.heap.size [true, true, true, true] (Nat.le_refl _) (by decide)
    have s1 : w.heap.size ≤ (w.alloc (.cells #[.bool true, .bool true, .bool true, .bool true] 4)).heap.size := by simp
    replace o1 : (w.alloc (.cells #[.bool true, .bool true, .bool true, .bool true] 4)).ownsRow w.heap.size 4 1 (.slice (some ⟨w.heap.size, 0, none⟩) 4 4) 4 (bv [true, true, true, true]) := o1
    generalize w.alloc (.cells #[.bool true, .bool true, .bool true, .bool true] 4) = W1 at *
    have hb := rbits_any u 64 W1 hu (by decide)
    rw [show ((64 : Nat) : Int) = 64 from rfl] at hb
    refine hb.mono ?_
    clear hb
    rintro e W2 ⟨v, rfl, hv, b2⟩
    rw [bitsOf_length] at hv
    obtain ⟨g, cp, rfl, hcells, hg⟩ := owns_cells hv (by omega)
    have o2 := o1.kept (gb_below (row := none) b2) (by simp; exact Classical.em _)
    have B2 := bel_gbn B1 s1 (gb_below b2)
    have s2 := Nat.le_trans s1 b2.size
    have HL := Lib.hid (show (bv (bitsOf u 64)).length = 64 * 1 from by rw [bv_length, bitsOf_length])
    have HO := Lib.hid (bv_ones (bitsOf u 64))
    have HCL := Lib.hid hcells
    have HBV := Lib.hid (show bv (code u) = bv [true, true, true, true] ++ bv (bitsOf u 64) from by rw [HCO.out, bv_append])
    have HLN := Lib.hid (show (code u).length = 4 + 64 from by rw [HCO.out, List.length_append, bitsOf_length]; rfl)
    clear o1 B1 s1 b2 hv hcells
    generalize bv (bitsOf u 64) = news at *
    go_wp2_with (at_builtin; refine wpList_append_own _ rfl _ _ 72 rfl w.heap.size 4 i0 _ 1 1 Try.underlying72 hi hz0 hz1 hz2 rfl (by decide) _ _ _ rfl o2 ⟨g, 0, none⟩ 64 cp news rfl HL.out HCL.out HO.out (by unfold maxLen; omega) (by omega) s2 ?_)
    intro v3 W3 o3 g3 _
    have B3 := B2.grown g3 s2 (fun k hk => (o2.lt k hk).1)
    clear o2 g3 B2 s2 hi hz0 hz1 hz2
    go_wp2
    go_ret
    exact ⟨v3, rfl, by rw [HBV.out, HLN.out]; exact o3, B3⟩

end Go.Proofs.Ytjhnajenkoepdaa
