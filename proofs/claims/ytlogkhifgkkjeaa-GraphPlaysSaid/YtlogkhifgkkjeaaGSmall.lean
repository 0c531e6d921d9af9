/-
  Contracts of graph's New, isNone, isMade, isSource, canCut, Right, byDst, and of strings.Compare.
-/
import Derived.Test.YtlogkhifgkkjeaaGAt
import Derived.Test.YtlogkhifgkkjeaaIKey
import Derived.Test.YtlogkhifgkkjeaaATime
import Derived.Test.YtlogkhifgkkjeaaERead
import Derived.Lib.Bytealg
namespace Go.Proofs.Ytlogkhifgkkjeaa
open Go.RowKit
set_option linter.unusedVariables false
set_option linter.unusedSimpArgs false

theorem gisNone_nil (w : World) : Calls Try.prog 29 #[.pointer none] w fun e w' => e = .returned (.bool true) ∧ w = w' := by
  go_enter Try.func29, Try.ntmps29
  go_wp2
  go_ret
  exact ⟨rfl, rfl⟩
theorem gisNone_no (w : World) (x bi bf : Nat) (h : GrCell w x bi bf) : Calls Try.prog 29 #[.pointer (some ⟨x, 0, none⟩)] w fun e w' => e = .returned (.bool false) ∧ w = w' := by
  have heq := fun (r : Option Nat) (W : World) => run_eql_map_nil W 60 _ _ r Try.underlying60
  have c0 := h.c0
  go_enter Try.func29, Try.ntmps29
  go_wp2
  go_ret
  exact ⟨rfl, rfl⟩

theorem gnew_any (w : World) : Calls Try.prog 9 #[] w fun e w' => ∃ x bi bf F, e = .returned (.pointer (some ⟨x, 0, none⟩)) ∧ GrAt w' x bi bf F [] ∧ Below w.heap.size w w' ∧ w.heap.size ≤ x ∧ ∀ i, F i → w.heap.size ≤ i := by
  have hmm := @run_makeMap Try.prog
  have B1 := (Below.refl w.heap.size w).alloc (Nat.le_refl _) (.map #[] 0)
  have M1 := MapAt.new w
  have M2 := MapAt.new (w.alloc (.map #[] 0))
  have M1' := M1.keep ((Below.refl _ _).alloc (Nat.le_refl _) (.map #[] 0))
  have B2 := B1.alloc (by simp) (.map #[] 0)
  have B3 := B2.alloc (by simp; omega) (.cells #[mp w.heap.size, mp (w.heap.size + 1)] 63)
  have X3 := heap_new ((w.alloc (.map #[] 0)).alloc (.map #[] 0)) (.cells #[mp w.heap.size, mp (w.heap.size + 1)] 63)
  have B23 := (Below.refl _ ((w.alloc (.map #[] 0)).alloc (.map #[] 0))).alloc (Nat.le_refl _) (.cells #[mp w.heap.size, mp (w.heap.size + 1)] 63)
  have M1'' := M1'.keep B23
  have M2' := M2.keep B23
  have s1 : (w.alloc (.map #[] 0)).heap.size = w.heap.size + 1 := by simp
  have s2 : ((w.alloc (.map #[] 0)).alloc (.map #[] 0)).heap.size = w.heap.size + 1 + 1 := by simp
  rw [s1] at M2'
  rw [s2] at X3
  clear B1 B2 M1 M2 M1' B23
  go_enter Try.func9, Try.ntmps9
  go_wp2
  go_ret
  refine ⟨w.heap.size + 1 + 1, w.heap.size, w.heap.size + 1, fun i => i = w.heap.size ∨ i = w.heap.size + 1, rfl, ⟨⟨X3, by omega, .inl rfl, .inr rfl, by omega, fun i hi => ?_, ⟨[], M1'', fun _ => rfl⟩, ⟨[], fun _ => none, M2', fun _ => rfl, ⟨fun _ _ e => (by cases e), fun _ _ _ e => (by cases e), fun _ _ => rfl, fun _ _ _ _ _ e => (by cases e)⟩⟩⟩, GoodU.nil, fun LF m k hk => by rw [m.uniq M2'] at hk; cases hk⟩, B3, by omega, fun i hi => by omega⟩
  simp only [World.size_alloc]
  omega

theorem isMade_ok (w : World) (x bi bf : Nat) (I : Tx → Option Ru) (d : Tx) (hc : GrCell w x bi bf) (h : IntoAt w bi I) :
    Calls Try.prog 30 #[.pointer (some ⟨x, 0, none⟩), .string (bs d)] w fun e w' => e = .returned (.bool (I d).isSome) ∧ Below w.heap.size w w' := by
  have c0 := hc.c0
  obtain ⟨LI, h1, h2⟩ := h
  have H1 := Lib.hid h1
  obtain ⟨r0, r1, r2, r3, r4, hu⟩ : ∃ (r0 r1 : ByteArray) (r2 r3 r4 : Int), (look LI d).getD (.agg #[.string ⟨#[]⟩, .string ⟨#[]⟩, .int .i64 0, .int .i64 0, .int .i64 0]) = .agg #[.string r0, .string r1, .int .i64 r2, .int .i64 r3, .int .i64 r4] := by
    rw [h2]
    cases I d with
    | none => exact ⟨_, _, _, _, _, rfl⟩
    | some r => exact ⟨_, _, _, _, _, rfl⟩
  have hok : (look LI d).isSome = (I d).isSome := by rw [h2]; cases I d <;> rfl
  have HB := Lib.hid ((Below.refl w.heap.size w).alloc (Nat.le_refl _) (.cells #[.string r0, .string r1, .int .i64 r2, .int .i64 r3, .int .i64 r4] 31))
  clear hc h1 h2
  generalize (I d).isSome = b at *
  go_enter Try.func30, Try.ntmps30
  go_wp2_with (first
    | (at_lookup; refine wpList_lookup_mok _ rfl _ _ 60 rfl 9 31 Try.underlying60 Try.underlying9 _ (Try.zeroValue31 _) bi _ rfl H1.out d _ rfl rfl _ hu _ hok ?_))
  go_ret
  exact ⟨rfl, HB.out⟩

theorem isSource_ok (w : World) (x bi bf : Nat) (F : Nat → Prop) (O : Tx → List Ru) (d : Tx) (hc : GrCell w x bi bf) (h : FromAt w bf F O) :
    Calls Try.prog 31 #[.pointer (some ⟨x, 0, none⟩), .string (bs d)] w fun e w' => e = .returned (.bool (decide (O d ≠ []))) ∧ w = w' := by
  have c1 := hc.c1
  obtain ⟨LF, K, h1, h2, h3⟩ := h
  have H1 := Lib.hid h1
  obtain ⟨a, cap, e, hr, _⟩ := (h3.row d).shape
  have hl : (look LF d).getD (.slice none 0 0) = .slice a (O d).length cap := by rw [h2, ← e]; rfl
  have HD := Lib.hid (show decide (O d ≠ []) = decide (0 < ((O d).length : Int)) from by
    rw [decide_eq_decide]
    cases O d <;> simp)
  clear h1 h2 h3 e hr hc
  generalize (O d).length = n at *
  generalize decide (O d ≠ []) = b at *
  by_cases h0 : 0 < (n : Int)
  · rw [decide_eq_true h0] at HD
    go_enter Try.func31, Try.ntmps31
    go_wp2_with (first
      | (at_lookup; refine wpList_lookup_m _ rfl _ _ 61 rfl 9 51 Try.underlying61 Try.underlying9 _ (Try.zeroValue51 _) bf _ rfl H1.out d _ rfl rfl _ hl ?_))
    go_ret
    exact ⟨ret_bool (by rw [HD.out]; simpa using h0), rfl⟩
  · rw [decide_eq_false h0] at HD
    go_enter Try.func31, Try.ntmps31
    go_wp2_with (first
      | (at_lookup; refine wpList_lookup_m _ rfl _ _ 61 rfl 9 51 Try.underlying61 Try.underlying9 _ (Try.zeroValue51 _) bf _ rfl H1.out d _ rfl rfl _ hl ?_))
    go_ret
    exact ⟨ret_bool (by rw [HD.out]; simpa using h0), rfl⟩

/-- The end of the first bucket is above 0, just if size and alignment are right. -/
theorem end_pos (size align : Int) : decide (0 < endB 0 size align) = decide (rightB size align) := by
  rw [decide_eq_decide]
  by_cases h : rightB size align
  · have hs := h.1
    have ha := h.2
    simp only [h, iff_true]
    by_cases h0 : (0 : Int) < align
    · rw [endB_of h (by omega) (by omega), if_pos h0]; exact h0
    · rw [endB_of h (by omega) (by omega), if_neg h0]
      have := startB_in (t := 0) (size := size) (align := align)
      omega
  · simp only [h, iff_false]
    unfold endB
    rw [if_pos (.inl h)]
    omega
theorem gcut_any (size align : Int) (w : World) :
    Calls Try.prog 43 #[.int .i64 size, .int .i64 align] w fun e w' => e = .returned (.bool (decide (rightB size align))) ∧ w = w' := by
  have E := Lib.hid (end_pos size align)
  have H := Lib.hid (fun W => end_any 0 size align W)
  generalize endB 0 size align = n at *
  generalize decide (rightB size align) = b at *
  by_cases h0 : 0 < n
  · rw [decide_eq_true h0] at E
    go_enter Try.func43, Try.ntmps43
    go_wp2_with fail
    refine (H.out _).mono ?_
    rintro e w' ⟨rfl, rfl⟩
    go_wp2
    go_ret
    exact ⟨ret_bool E.out, rfl⟩
  · rw [decide_eq_false h0] at E
    go_enter Try.func43, Try.ntmps43
    go_wp2_with fail
    refine (H.out _).mono ?_
    rintro e w' ⟨rfl, rfl⟩
    go_wp2
    go_ret
    exact ⟨ret_bool (by rw [← E.out]; simpa using h0), rfl⟩

set_option maxHeartbeats 1000000 in
theorem gright_any (r : Ru) (w : World) : Calls Try.prog 27 #[ruV r] w fun e w' => e = .returned (.bool (decide (rightU r))) ∧ Below w.heap.size w w' := by
  obtain ⟨s, d, k, n, a⟩ := r
  unfold ruV
  show Calls Try.prog 27 #[.agg #[.string (bs s), .string (bs d), .int .i64 k, .int .i64 n, .int .i64 a]] w _
  have hne : ((bs s).toList == (bs d).toList) = decide (s = d) := eq_bs s d
  have X := BoxU.new 31 w ⟨s, d, k, n, a⟩
  have x0 := X.x0
  have x1 := X.x1
  have x2 := X.x2
  have x3 := X.x3
  have x4 := X.x4
  have HB := Lib.hid ((Below.refl w.heap.size w).alloc (Nat.le_refl _) (.cells #[.string (bs s), .string (bs d), .int .i64 k, .int .i64 n, .int .i64 a] 31))
  simp only at x0 x1 x2 x3 x4
  have HS := Lib.hid (fun W => key_any s W)
  have HD := Lib.hid (fun W => key_any d W)
  have HK := Lib.hid (fun W => aright_any k W)
  have HC := Lib.hid (fun W => gcut_any n a W)
  have HE := Lib.hid (show decide (rightU ⟨s, d, k, n, a⟩) = (decide (keyB s) && (decide (keyB d) && (!decide (s = d) && (decide (kok k) && decide (rightB n a))))) from by
    rw [← decide_not, ← Bool.decide_and, ← Bool.decide_and, ← Bool.decide_and, ← Bool.decide_and]; rfl)
  clear X
  generalize decide (rightU ⟨s, d, k, n, a⟩) = b at *
  generalize decide (keyB s) = b1 at *
  generalize decide (keyB d) = b2 at *
  generalize decide (s = d) = b3 at *
  generalize decide (kok k) = b4 at *
  generalize decide (rightB n a) = b5 at *
  cases b1
  · go_enter Try.func27, Try.ntmps27
    go_wp2_with (first | (go_at_call 41; refine (HS.out _).mono ?_; rintro e w' ⟨rfl, rfl⟩))
    go_ret
    exact ⟨ret_bool HE.out.symm, HB.out⟩
  cases b2
  · go_enter Try.func27, Try.ntmps27
    go_wp2_with fail
    refine (HS.out _).mono ?_; rintro e w' ⟨rfl, rfl⟩
    go_wp2_with fail
    refine (HD.out _).mono ?_; rintro e w' ⟨rfl, rfl⟩
    go_wp2
    go_ret
    exact ⟨ret_bool HE.out.symm, HB.out⟩
  cases b3
  · cases b4
    · go_enter Try.func27, Try.ntmps27
      go_wp2_with fail
      refine (HS.out _).mono ?_; rintro e w' ⟨rfl, rfl⟩
      go_wp2_with fail
      refine (HD.out _).mono ?_; rintro e w' ⟨rfl, rfl⟩
      go_wp2_with fail
      refine (HK.out _).mono ?_; rintro e w' ⟨rfl, rfl⟩
      go_wp2
      go_ret
      exact ⟨ret_bool HE.out.symm, HB.out⟩
    · go_enter Try.func27, Try.ntmps27
      go_wp2_with fail
      refine (HS.out _).mono ?_; rintro e w' ⟨rfl, rfl⟩
      go_wp2_with fail
      refine (HD.out _).mono ?_; rintro e w' ⟨rfl, rfl⟩
      go_wp2_with fail
      refine (HK.out _).mono ?_; rintro e w' ⟨rfl, rfl⟩
      go_wp2_with fail
      refine (HC.out _).mono ?_; rintro e w' ⟨rfl, rfl⟩
      go_wp2
      go_ret
      exact ⟨ret_bool (by rw [HE.out]; rfl), HB.out⟩
  · go_enter Try.func27, Try.ntmps27
    go_wp2_with fail
    refine (HS.out _).mono ?_; rintro e w' ⟨rfl, rfl⟩
    go_wp2_with fail
    refine (HD.out _).mono ?_; rintro e w' ⟨rfl, rfl⟩
    go_wp2
    go_ret
    exact ⟨ret_bool HE.out.symm, HB.out⟩

/-! Texts held against each other. -/
theorem compare_is : ∀ (x y : Tx), Lib.compareBytes x y = cmpL x y
  | [], [] => by simp [Lib.compareBytes, cmpL]
  | [], b :: y => by simp [Lib.compareBytes, cmpL]
  | a :: x, [] => by simp [Lib.compareBytes, cmpL]
  | a :: x, b :: y => by
    have ih := compare_is x y
    unfold Lib.compareBytes
    unfold cmpL at *
    simp only [List.cons_lt_cons_iff]
    by_cases h1 : a < b
    · simp [h1]
    · by_cases h2 : b < a
      · have : ¬ a = b := fun e => h1 (by rw [e] at h2; exact absurd h2 (by rw [UInt8.lt_iff_toNat_lt]; omega))
        simp [h1, h2, this]
      · have : a = b := UInt8.toNat_inj.1 (by rw [UInt8.lt_iff_toNat_lt] at h1 h2; omega)
        subst this
        simp [h1, ih]
theorem compareString_any (a b : ByteArray) (w : World) :
    Calls Try.prog 68 #[.string a, .string b] w fun e w' => e = .returned (.int .i64 (Lib.compareBytes a.data.toList b.data.toList)) ∧ w = w' := by
  go_enter Try.func68, Try.ntmps68
  go_wp2
  rw [run_callFunc_extern Try.func81 (by kernel_rfl) (by kernel_rfl) (by kernel_rfl) (e := Extern.BytealgCompare.compare) (by kernel_rfl), Lib.run_compareString]
  simp only [Result.andThen]
  rw [Oper.upon_value]
  go_wp2
  go_ret
  exact ⟨rfl, rfl⟩
theorem compare_any (x y : Tx) (w : World) :
    Calls Try.prog 59 #[.string (bs x), .string (bs y)] w fun e w' => e = .returned (.int .i64 (cmpL x y)) ∧ w = w' := by
  have H := Lib.hid (compareString_any (bs x) (bs y) w)
  rw [show (bs x).data.toList = x from tx_bs x, show (bs y).data.toList = y from tx_bs y, compare_is] at H
  go_enter Try.func59, Try.ntmps59
  go_wp2_with fail
  refine H.out.mono ?_
  rintro e w' ⟨rfl, rfl⟩
  go_wp2
  go_ret
  exact ⟨rfl, rfl⟩
theorem byDst_any (r : Ru) (d : Tx) (w : World) : Calls Try.prog 48 #[ruV r, .string (bs d)] w fun e w' => e = .returned (.int .i64 (cmpL r.dst d)) ∧ Below w.heap.size w w' := by
  obtain ⟨s, t, k, n, a⟩ := r
  unfold ruV
  show Calls Try.prog 48 #[.agg #[.string (bs s), .string (bs t), .int .i64 k, .int .i64 n, .int .i64 a], .string (bs d)] w fun e w' => e = .returned (.int .i64 (cmpL t d)) ∧ Below w.heap.size w w'
  have X := BoxU.new 31 w ⟨s, t, k, n, a⟩
  have x1 := X.x1
  have HB := Lib.hid ((Below.refl w.heap.size w).alloc (Nat.le_refl _) (.cells #[.string (bs s), .string (bs t), .int .i64 k, .int .i64 n, .int .i64 a] 31))
  simp only at x1
  have H := Lib.hid (fun W => compare_any t d W)
  generalize cmpL t d = c at *
  clear X
  go_enter Try.func48, Try.ntmps48
  go_wp2_with fail
  refine (H.out _).mono ?_
  rintro e w' ⟨rfl, rfl⟩
  go_wp2
  go_ret
  exact ⟨rfl, HB.out⟩

end Go.Proofs.Ytlogkhifgkkjeaa
