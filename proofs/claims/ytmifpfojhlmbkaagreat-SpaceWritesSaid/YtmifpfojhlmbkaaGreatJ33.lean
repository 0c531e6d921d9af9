/-
  Contracts.
-/
import Derived.Test.YtmifpfojhlmbkaaGreatJ7
import Derived.Test.YtmifpfojhlmbkaaGreatJ14
import Derived.Test.YtmifpfojhlmbkaaGreatJ15
import Derived.Test.YtmifpfojhlmbkaaGreatJ23
import Derived.Test.YtmifpfojhlmbkaaGreatJ25
import Derived.Test.YtmifpfojhlmbkaaGreatJ26
import Derived.Test.YtmifpfojhlmbkaaGreatJ32
import Derived.StillTailTactics
import Derived.Lib.Bytealg
namespace Go.Proofs.YtmifpfojhlmbkaaGreat
open Lib (hid)
set_option maxRecDepth 100000
set_option maxHeartbeats 16000000
open Go.RowKit
set_option linter.unusedVariables false
set_option linter.unusedSimpArgs false
theorem gisNone_no (w : World) (x bi bf : Nat) (h : GrCell w x bi bf) : Calls Tryz.prog 114 #[.pointer (some ⟨x, 0, none⟩)] w fun e w' => e = .returned (.bool false) ∧ w = w' := by
  have heq := fun (r : Option Nat) (W : World) => run_eql_map_nil W 173 _ _ r Tryz.underlying173
  have c0 := h.c0
  go_enter Tryz.func114, Tryz.ntmps114
  go_wp2
  go_ret
  exact ⟨rfl, rfl⟩
theorem gnew_any (w : World) : Calls Tryz.prog 52 #[] w fun e w' => ∃ x bi bf F, e = .returned (.pointer (some ⟨x, 0, none⟩)) ∧ GrAt w' x bi bf F [] ∧ Below w.heap.size w w' ∧ w.heap.size ≤ x ∧ ∀ i, F i → w.heap.size ≤ i := by
  have hmm := @run_makeMap Tryz.prog
  have B1 := (Below.refl w.heap.size w).alloc (Nat.le_refl _) (.map #[] 0)
  have M1 := MapAt.new w
  have M2 := MapAt.new (w.alloc (.map #[] 0))
  have M1' := M1.keep ((Below.refl _ _).alloc (Nat.le_refl _) (.map #[] 0))
  have B2 := B1.alloc (by simp) (.map #[] 0)
  have B3 := B2.alloc (by simp; omega) (.cells #[mp w.heap.size, mp (w.heap.size + 1)] 176)
  have X3 := heap_new ((w.alloc (.map #[] 0)).alloc (.map #[] 0)) (.cells #[mp w.heap.size, mp (w.heap.size + 1)] 176)
  have B23 := (Below.refl _ ((w.alloc (.map #[] 0)).alloc (.map #[] 0))).alloc (Nat.le_refl _) (.cells #[mp w.heap.size, mp (w.heap.size + 1)] 176)
  have M1'' := M1'.keep B23
  have M2' := M2.keep B23
  have s1 : (w.alloc (.map #[] 0)).heap.size = w.heap.size + 1 := by simp
  have s2 : ((w.alloc (.map #[] 0)).alloc (.map #[] 0)).heap.size = w.heap.size + 1 + 1 := by simp
  rw [s1] at M2'
  rw [s2] at X3
  clear B1 B2 M1 M2 M1' B23
  go_enter Tryz.func52, Tryz.ntmps52
  go_wp2
  go_ret
  refine ⟨w.heap.size + 1 + 1, w.heap.size, w.heap.size + 1, fun i => i = w.heap.size ∨ i = w.heap.size + 1, rfl, ⟨⟨X3, by omega, .inl rfl, .inr rfl, by omega, fun i hi => ?_, ⟨[], M1'', fun _ => rfl⟩, ⟨[], fun _ => none, M2', fun _ => rfl, ⟨fun _ _ e => (by cases e), fun _ _ _ e => (by cases e), fun _ _ => rfl, fun _ _ _ _ _ e => (by cases e)⟩⟩⟩, GoodU.nil, fun LF m k hk => by rw [m.uniq M2'] at hk; cases hk⟩, B3, by omega, fun i hi => by omega⟩
  rcases hi with rfl | rfl
  · exact .inl M1''.isMap
  · exact .inl M2'.isMap
theorem isMade_ok (w : World) (x bi bf : Nat) (I : Tx → Option Ru) (d : Tx) (hc : GrCell w x bi bf) (h : IntoAt w bi I) :
    Calls Tryz.prog 163 #[.pointer (some ⟨x, 0, none⟩), .string (bs d)] w fun e w' => e = .returned (.bool (I d).isSome) ∧ Below w.heap.size w w' := by
  have c0 := hc.c0
  obtain ⟨LI, h1, h2⟩ := h
  have H1 := hid h1
  obtain ⟨r0, r1, r2, r3, r4, hu⟩ : ∃ (r0 r1 : ByteArray) (r2 r3 r4 : Int), (look LI d).getD (.agg #[.string ⟨#[]⟩, .string ⟨#[]⟩, .int .i64 0, .int .i64 0, .int .i64 0]) = .agg #[.string r0, .string r1, .int .i64 r2, .int .i64 r3, .int .i64 r4] := by
    rw [h2]
    cases I d with
    | none => exact ⟨_, _, _, _, _, rfl⟩
    | some r => exact ⟨_, _, _, _, _, rfl⟩
  have hok : (look LI d).isSome = (I d).isSome := by rw [h2]; cases I d <;> rfl
  have HB := hid ((Below.refl w.heap.size w).alloc (Nat.le_refl _) (.cells #[.string r0, .string r1, .int .i64 r2, .int .i64 r3, .int .i64 r4] 32))
  clear hc h1 h2
  generalize (I d).isSome = b at *
  go_enter Tryz.func163, Tryz.ntmps163
  go_wp2_with (first
    | (at_lookup; refine wpList_lookup_mok _ rfl _ _ 173 rfl 9 32 Tryz.underlying173 Tryz.underlying9 _ (Tryz.zeroValue32 _) bi _ rfl H1.out d _ rfl rfl _ hu _ hok ?_))
  go_ret
  exact ⟨rfl, HB.out⟩
theorem isSource_ok (w : World) (x bi bf : Nat) (F : Nat → Prop) (O : Tx → List Ru) (d : Tx) (hc : GrCell w x bi bf) (h : FromAt w bf F O) :
    Calls Tryz.prog 164 #[.pointer (some ⟨x, 0, none⟩), .string (bs d)] w fun e w' => e = .returned (.bool (decide (O d ≠ []))) ∧ w = w' := by
  have c1 := hc.c1
  obtain ⟨LF, K, h1, h2, h3⟩ := h
  have H1 := hid h1
  obtain ⟨a, cap, e, hr, _⟩ := (h3.row d).shape
  have hl : (look LF d).getD (.slice none 0 0) = .slice a (O d).length cap := by rw [h2, ← e]; rfl
  have HD := hid (show decide (O d ≠ []) = decide (0 < ((O d).length : Int)) from by
    rw [decide_eq_decide]
    cases O d <;> simp)
  clear h1 h2 h3 e hr hc
  generalize (O d).length = n at *
  generalize decide (O d ≠ []) = b at *
  by_cases h0 : 0 < (n : Int)
  · rw [decide_eq_true h0] at HD
    go_enter Tryz.func164, Tryz.ntmps164
    go_wp2_with (first
      | (at_lookup; refine wpList_lookup_m _ rfl _ _ 174 rfl 9 38 Tryz.underlying174 Tryz.underlying9 _ (Tryz.zeroValue38 _) bf _ rfl H1.out d _ rfl rfl _ hl ?_))
    go_ret
    exact ⟨ret_bool (by rw [HD.out]; simpa using h0), rfl⟩
  · rw [decide_eq_false h0] at HD
    go_enter Tryz.func164, Tryz.ntmps164
    go_wp2_with (first
      | (at_lookup; refine wpList_lookup_m _ rfl _ _ 174 rfl 9 38 Tryz.underlying174 Tryz.underlying9 _ (Tryz.zeroValue38 _) bf _ rfl H1.out d _ rfl rfl _ hl ?_))
    go_ret
    exact ⟨ret_bool (by rw [HD.out]; simpa using h0), rfl⟩
theorem end_pos (size align : Int) : decide (0 < endB 0 size align) = decide (rightB size align) := by
  rw [decide_eq_decide]
  by_cases h : rightB size align
  · have hs := h.1
    have ha := h.2
    simp only [h, iff_true]
    by_cases h0 : (0 : Int) < align
    · rw [endB_of h (by omega) (by omega), if_pos h0]; exact h0
    · rw [endB_of h (by omega) (by omega), if_neg h0]
      have := startB_in (t := 0) (size := size) (align := align)
      omega
  · simp only [h, iff_false]
    unfold endB
    rw [if_pos (.inl h)]
    omega
theorem gcut_any (size align : Int) (w : World) :
    Calls Tryz.prog 162 #[.int .i64 size, .int .i64 align] w fun e w' => e = .returned (.bool (decide (rightB size align))) ∧ w = w' := by
  have E := hid (end_pos size align)
  have H := hid (fun W => end_any 0 size align W)
  generalize endB 0 size align = n at *
  generalize decide (rightB size align) = b at *
  by_cases h0 : 0 < n
  · rw [decide_eq_true h0] at E
    go_enter Tryz.func162, Tryz.ntmps162
    go_wp2_with fail
    refine (H.out _).mono ?_
    rintro e w' ⟨rfl, rfl⟩
    go_wp2
    go_ret
    exact ⟨ret_bool E.out, rfl⟩
  · rw [decide_eq_false h0] at E
    go_enter Tryz.func162, Tryz.ntmps162
    go_wp2_with fail
    refine (H.out _).mono ?_
    rintro e w' ⟨rfl, rfl⟩
    go_wp2
    go_ret
    exact ⟨ret_bool (by rw [← E.out]; simpa using h0), rfl⟩
theorem gright_any (r : Ru) (w : World) : Calls Tryz.prog 91 #[ruV r] w fun e w' => e = .returned (.bool (decide (rightU r))) ∧ Below w.heap.size w w' := by
  obtain ⟨s, d, k, n, a⟩ := r
  unfold ruV
  show Calls Tryz.prog 91 #[.agg #[.string (bs s), .string (bs d), .int .i64 k, .int .i64 n, .int .i64 a]] w _
  have hne : ((bs s).toList == (bs d).toList) = decide (s = d) := eq_bs s d
  have X := BoxU.new 32 w ⟨s, d, k, n, a⟩
  have x0 := X.x0
  have x1 := X.x1
  have x2 := X.x2
  have x3 := X.x3
  have x4 := X.x4
  have HB := hid ((Below.refl w.heap.size w).alloc (Nat.le_refl _) (.cells #[.string (bs s), .string (bs d), .int .i64 k, .int .i64 n, .int .i64 a] 32))
  simp only at x0 x1 x2 x3 x4
  have HS := hid (fun W => key_any s W)
  have HD := hid (fun W => key_any d W)
  have HK := hid (fun W => aright_any k W)
  have HC := hid (fun W => gcut_any n a W)
  have HE := hid (show decide (rightU ⟨s, d, k, n, a⟩) = (decide (keyB s) && (decide (keyB d) && (!decide (s = d) && (decide (kok k) && decide (rightB n a))))) from by
    rw [← decide_not, ← Bool.decide_and, ← Bool.decide_and, ← Bool.decide_and, ← Bool.decide_and]; rfl)
  clear X
  generalize decide (rightU ⟨s, d, k, n, a⟩) = b at *
  generalize decide (keyB s) = b1 at *
  generalize decide (keyB d) = b2 at *
  generalize decide (s = d) = b3 at *
  generalize decide (kok k) = b4 at *
  generalize decide (rightB n a) = b5 at *
  cases b1
  · go_enter Tryz.func91, Tryz.ntmps91
    go_wp2_with (first | (go_at_call 153; refine (HS.out _).mono ?_; rintro e w' ⟨rfl, rfl⟩))
    go_ret
    exact ⟨ret_bool HE.out.symm, HB.out⟩
  cases b2
  · go_enter Tryz.func91, Tryz.ntmps91
    go_wp2_with fail
    refine (HS.out _).mono ?_; rintro e w' ⟨rfl, rfl⟩
    go_wp2_with fail
    refine (HD.out _).mono ?_; rintro e w' ⟨rfl, rfl⟩
    go_wp2
    go_ret
    exact ⟨ret_bool HE.out.symm, HB.out⟩
  cases b3
  · cases b4
    · go_enter Tryz.func91, Tryz.ntmps91
      go_wp2_with fail
      refine (HS.out _).mono ?_; rintro e w' ⟨rfl, rfl⟩
      go_wp2_with fail
      refine (HD.out _).mono ?_; rintro e w' ⟨rfl, rfl⟩
      go_wp2_with fail
      refine (HK.out _).mono ?_; rintro e w' ⟨rfl, rfl⟩
      go_wp2
      go_ret
      exact ⟨ret_bool HE.out.symm, HB.out⟩
    · go_enter Tryz.func91, Tryz.ntmps91
      go_wp2_with fail
      refine (HS.out _).mono ?_; rintro e w' ⟨rfl, rfl⟩
      go_wp2_with fail
      refine (HD.out _).mono ?_; rintro e w' ⟨rfl, rfl⟩
      go_wp2_with fail
      refine (HK.out _).mono ?_; rintro e w' ⟨rfl, rfl⟩
      go_wp2_with fail
      refine (HC.out _).mono ?_; rintro e w' ⟨rfl, rfl⟩
      go_wp2
      go_ret
      exact ⟨ret_bool (by rw [HE.out]; rfl), HB.out⟩
  · go_enter Tryz.func91, Tryz.ntmps91
    go_wp2_with fail
    refine (HS.out _).mono ?_; rintro e w' ⟨rfl, rfl⟩
    go_wp2_with fail
    refine (HD.out _).mono ?_; rintro e w' ⟨rfl, rfl⟩
    go_wp2
    go_ret
    exact ⟨ret_bool HE.out.symm, HB.out⟩
theorem compare_is : ∀ (x y : Tx), Lib.compareBytes x y = cmpL x y
  | [], [] => by simp [Lib.compareBytes, cmpL]
  | [], b :: y => by simp [Lib.compareBytes, cmpL]
  | a :: x, [] => by simp [Lib.compareBytes, cmpL]
  | a :: x, b :: y => by
    have ih := compare_is x y
    unfold Lib.compareBytes
    unfold cmpL at *
    simp only [List.cons_lt_cons_iff]
    by_cases h1 : a < b
    · simp [h1]
    · by_cases h2 : b < a
      · have : ¬ a = b := fun e => h1 (by rw [e] at h2; exact absurd h2 (by rw [UInt8.lt_iff_toNat_lt]; omega))
        simp [h1, h2, this]
      · have : a = b := UInt8.toNat_inj.1 (by rw [UInt8.lt_iff_toNat_lt] at h1 h2; omega)
        subst this
        simp [h1, ih]
theorem compareString_any (a b : ByteArray) (w : World) :
    Calls Tryz.prog 324 #[.string a, .string b] w fun e w' => e = .returned (.int .i64 (Lib.compareBytes a.data.toList b.data.toList)) ∧ w = w' := by
  go_enter Tryz.func324, Tryz.ntmps324
  go_wp2
  rw [run_callFunc_extern Tryz.func342 (by kernel_rfl) (by kernel_rfl) (by kernel_rfl) (e := Extern.BytealgCompare.compare) (by kernel_rfl), Lib.run_compareString]
  simp only [Result.andThen]
  rw [Oper.upon_value]
  go_wp2
  go_ret
  exact ⟨rfl, rfl⟩
theorem compare_any (x y : Tx) (w : World) :
    Calls Tryz.prog 285 #[.string (bs x), .string (bs y)] w fun e w' => e = .returned (.int .i64 (cmpL x y)) ∧ w = w' := by
  have H := hid (compareString_any (bs x) (bs y) w)
  rw [show (bs x).data.toList = x from tx_bs x, show (bs y).data.toList = y from tx_bs y, compare_is] at H
  go_enter Tryz.func285, Tryz.ntmps285
  go_wp2_with fail
  refine H.out.mono ?_
  rintro e w' ⟨rfl, rfl⟩
  go_wp2
  go_ret
  exact ⟨rfl, rfl⟩
theorem byDst_any (r : Ru) (d : Tx) (w : World) : Calls Tryz.prog 232 #[ruV r, .string (bs d)] w fun e w' => e = .returned (.int .i64 (cmpL r.dst d)) ∧ Below w.heap.size w w' := by
  obtain ⟨s, t, k, n, a⟩ := r
  unfold ruV
  show Calls Tryz.prog 232 #[.agg #[.string (bs s), .string (bs t), .int .i64 k, .int .i64 n, .int .i64 a], .string (bs d)] w fun e w' => e = .returned (.int .i64 (cmpL t d)) ∧ Below w.heap.size w w'
  have X := BoxU.new 32 w ⟨s, t, k, n, a⟩
  have x1 := X.x1
  have HB := hid ((Below.refl w.heap.size w).alloc (Nat.le_refl _) (.cells #[.string (bs s), .string (bs t), .int .i64 k, .int .i64 n, .int .i64 a] 32))
  simp only at x1
  have H := hid (fun W => compare_any t d W)
  generalize cmpL t d = c at *
  clear X
  go_enter Tryz.func232, Tryz.ntmps232
  go_wp2_with fail
  refine (H.out _).mono ?_
  rintro e w' ⟨rfl, rfl⟩
  go_wp2
  go_ret
  exact ⟨rfl, HB.out⟩
theorem hNew (w : World) : Calls Tryz.prog 9 #[] w fun e w' => ∃ x m, e = .returned (.pointer (some ⟨x, 0, none⟩)) ∧ SpAt w' x m noSpc ∧ w.heap.size ≤ x ∧ Below w.heap.size w w' ∧ ∀ i, Own m [] i → w.heap.size ≤ i := by
  have hmm := @run_makeMap Tryz.prog
  have B1 := (Below.refl w.heap.size w).alloc (Nat.le_refl _) (.map #[] 0)
  have M1 := hid (MapAt.new w)
  have HB1 := hid B1
  have s1 : (w.alloc (.map #[] 0)).heap.size = w.heap.size + 1 := by simp
  have S1 := hid s1
  clear B1 s1
  go_enter Tryz.func9, Tryz.ntmps9
  go_wp2_with fail
  generalize hBB : w.heap.size = B0 at *
  have HBB := hid hBB
  generalize w.alloc (.map #[] 0) = w1 at *
  clear hBB
  refine (new_any w1).mono ?_
  rintro e w2 ⟨ix, bl, bn, ρ, rfl, hix, b2, hfa⟩
  have HI := hid hix
  have B2 := hid b2
  have HFA := hid hfa
  clear hix b2 hfa
  go_wp2_with fail
  refine (gnew_any w2).mono ?_
  rintro e w3 ⟨gx, bi, bf, F, rfl, hgr, b3, hgx, hF⟩
  have HG := hid hgr
  have B3 := hid b3
  have HF := hid hF
  have B4 := hid ((Below.refl w3.heap.size w3).alloc (Nat.le_refl _) (.cells #[mp B0, pt ix, pt gx] 98))
  have HX := hid (heap_new w3 (.cells #[mp B0, pt ix, pt gx] 98))
  unfold pt mp at B4 HX
  clear hgr b3 hgx hF
  go_wp2
  go_ret
  have e1 := S1.out
  have e2 := B2.out.size
  have e3 := B3.out.size
  refine ⟨w3.heap.size, ⟨B0, ix, bl, bn, ρ, gx, bi, bf, F, fun _ => 0⟩, rfl, ⟨HX.out, ⟨[], ?_, fun k => rfl⟩, (HI.out.keep B3.out).keep B4.out, HG.out.keep B4.out, fun k hk => absurd hk (by simp [Spc.has, noSpc, keysL]), fun k j hk => absurd hk (by simp [Spc.has, noSpc, keysL]), fun f => ?_, fun f => ?_, fun i f a => ?_, Ok12.none⟩, by rw [HBB.out]; omega, ?_, fun i f => ?_⟩
  · exact ((M1.out.keep B2.out).keep B3.out).keep B4.out
  · have := HFA.out B0 f; omega
  · have := HF.out B0 f; omega
  · have h1 := HF.out i f
    have h2 := HI.out.lt a
    omega
  · rw [HBB.out]
    exact (HB1.out.trans (B2.out.mono (by omega))).trans ((B3.out.mono (by omega)).trans (B4.out.mono (by omega)))
  · rw [HBB.out]
    rcases f with rfl | f | f | ⟨k, hk, _⟩
    · exact Nat.le_refl _
    · have := HFA.out i f; omega
    · have := HF.out i f; omega
    · simp [keysL] at hk
def BegP (k : Tx) (P : Spc) (sz ret pol : Int) (l : List Lb) (w : World) (e : Ending) (w' : World) : Prop :=
  ∃ p, e = .returned (.tuple #[.pointer p, .int .i64 (bErr P k sz ret pol l)]) ∧ (bErr P k sz ret pol l = 0 → ∃ o, p = some ⟨o, 0, none⟩ ∧ w.heap.size ≤ o ∧ SerAt w' o sz (newSer ret pol)) ∧ Below w.heap.size w w'
def BoxN (w : World) (B : Nat) (sz ret pol : Int) (v : Value) : Prop := w.heap[B]? = some (.cells #[.int .i64 sz, .int .i64 ret, .int .i64 pol, v] 30 (0, 0))
theorem BoxN.x0 {w : World} {B : Nat} {sz ret pol : Int} {v : Value} (h : BoxN w B sz ret pol v) : w.cell? ⟨B, 0, none⟩ = some (.int .i64 sz) := by rw [cell_of h]; rfl
theorem BoxN.x1 {w : World} {B : Nat} {sz ret pol : Int} {v : Value} (h : BoxN w B sz ret pol v) : w.cell? ⟨B, 1, none⟩ = some (.int .i64 ret) := by rw [cell_of h]; rfl
theorem BoxN.x2 {w : World} {B : Nat} {sz ret pol : Int} {v : Value} (h : BoxN w B sz ret pol v) : w.cell? ⟨B, 2, none⟩ = some (.int .i64 pol) := by rw [cell_of h]; rfl
theorem BoxN.x3 {w : World} {B : Nat} {sz ret pol : Int} {v : Value} (h : BoxN w B sz ret pol v) : w.cell? ⟨B, 3, none⟩ = some v := by rw [cell_of h]; rfl
theorem BoxN.keep {w w' : World} {B : Nat} {sz ret pol : Int} {v : Value} (h : BoxN w B sz ret pol v) (b : Below w.heap.size w w') : BoxN w' B sz ret pol v := (b.block B (heap_lt h)).trans h
theorem hBegun (w : World) (x : Nat) (m : Mem) (P : Spc) (k : Tx) (sz ret pol : Int) (a : Option Addr) (n c : Nat) (l : List Lb) (h : SpAt w x m P) (hl : LbAt w a n c l) :
    Calls Tryz.prog 84 #[.pointer (some ⟨x, 0, none⟩), .string (bs k), .agg #[.int .i64 sz, .int .i64 ret, .int .i64 pol, .slice a n c]] w (BegP k P sz ret pol l w) := by
  have B1 := (Below.refl w.heap.size w).alloc (Nat.le_refl _) (.cells #[.int .i64 sz, .int .i64 ret, .int .i64 pol, .slice a n c] 30)
  have H1 := hid (h.keep B1)
  have L1 := hid (hl.keep B1)
  have HB1 := hid B1
  have HX := hid (show BoxN (w.alloc (.cells #[.int .i64 sz, .int .i64 ret, .int .i64 pol, .slice a n c] 30)) w.heap.size sz ret pol (.slice a n c) from heap_new w _)
  have HK := hid (fun W => key_any k W)
  have HR := hid (fun W (q : LbAt W a n c l) => right9_any a n c l W q)
  have HH := hid (fun W (q : SpAt W x m P) => hHas W x m P k q)
  by_cases h1 : (128 ≤ sz ∧ sz ≤ 4096) ∧ keepB ret pol
  · have HN := hid (fun W => snew_at sz ret pol W h1.1.1 h1.1.2 h1.2)
    by_cases h2 : keyB k
    · rw [decide_eq_true h2] at HK
      by_cases h3 : rightL l
      · rw [decide_eq_true h3] at HR
        by_cases h4 : P.has k
        · rw [decide_eq_true h4] at HH
          have HE := hid (show bErr P k sz ret pol l = 6 from by unfold bErr; rw [if_neg (by simp [h1, h2, h3]), if_pos h4])
          clear h hl B1 h1 h2 h3 h4
          go_enter Tryz.func84, Tryz.ntmps84
          go_wp2_with fail
          generalize hBB : w.heap.size = B0 at *
          have HBB := hid hBB
          generalize w.alloc (.cells #[.int .i64 sz, .int .i64 ret, .int .i64 pol, .slice a n c] 30) = w1 at *
          clear hBB
          refine (hNone_no w1 x m H1.out.cell).mono ?_
          rintro e w' ⟨rfl, rfl⟩
          have x0 := HX.out.x0
          have x1 := HX.out.x1
          have x2 := HX.out.x2
          go_wp2_with fail
          refine (HN.out _).mono ?_
          rintro e w2 ⟨o, rfl, s2, ho, b2⟩
          have x3 := (HX.out.keep b2).x3
          have L2 := hid (L1.out.keep b2)
          have H2 := hid (H1.out.keep b2)
          have B2 := hid b2
          clear b2 s2 ho x0 x1 x2
          go_wp2_with fail
          refine (HK.out _).mono ?_
          rintro e w' ⟨rfl, rfl⟩
          go_wp2_with fail
          refine (HR.out _ L2.out).mono ?_
          rintro e w3 ⟨rfl, b3⟩
          have H3 := hid (H2.out.keep b3)
          have B3 := hid (B2.out.trans (b3.mono B2.out.size))
          clear b3 x3
          go_wp2_with fail
          refine (HH.out _ H3.out).mono ?_
          rintro e w4 ⟨rfl, b4⟩
          have B4 := hid (show Below w.heap.size w w4 from by rw [HBB.out]; exact HB1.out.trans ((B3.out.trans (b4.mono B3.out.size)).mono (Nat.le_of_lt (heap_lt HX.out))))
          clear b4
          go_wp2
          go_ret2
          exact ⟨none, by rw [HE.out]; rfl, by rw [HE.out]; intro q; omega, B4.out⟩
        · rw [decide_eq_false h4] at HH
          have HE := hid (show bErr P k sz ret pol l = 0 from by unfold bErr; rw [if_neg (by simp [h1, h2, h3]), if_neg h4])
          clear h hl B1 h1 h2 h3 h4
          go_enter Tryz.func84, Tryz.ntmps84
          go_wp2_with fail
          generalize hBB : w.heap.size = B0 at *
          have HBB := hid hBB
          generalize w.alloc (.cells #[.int .i64 sz, .int .i64 ret, .int .i64 pol, .slice a n c] 30) = w1 at *
          clear hBB
          refine (hNone_no w1 x m H1.out.cell).mono ?_
          rintro e w' ⟨rfl, rfl⟩
          have x0 := HX.out.x0
          have x1 := HX.out.x1
          have x2 := HX.out.x2
          go_wp2_with fail
          refine (HN.out _).mono ?_
          rintro e w2 ⟨o, rfl, s2, ho, b2⟩
          have x3 := (HX.out.keep b2).x3
          have L2 := hid (L1.out.keep b2)
          have H2 := hid (H1.out.keep b2)
          have B2 := hid b2
          have S2 := hid s2
          have HO := hid (show w.heap.size ≤ o from by rw [HBB.out]; exact Nat.le_trans (Nat.le_of_lt (heap_lt HX.out)) ho)
          clear b2 s2 ho x0 x1 x2
          go_wp2_with fail
          refine (HK.out _).mono ?_
          rintro e w' ⟨rfl, rfl⟩
          go_wp2_with fail
          refine (HR.out _ L2.out).mono ?_
          rintro e w3 ⟨rfl, b3⟩
          have H3 := hid (H2.out.keep b3)
          have S3 := hid (S2.out.keepB b3)
          have B3 := hid (B2.out.trans (b3.mono B2.out.size))
          clear b3 x3
          go_wp2_with fail
          refine (HH.out _ H3.out).mono ?_
          rintro e w4 ⟨rfl, b4⟩
          have S4 := hid (S3.out.keepB b4)
          have B4 := hid (show Below w.heap.size w w4 from by rw [HBB.out]; exact HB1.out.trans ((B3.out.trans (b4.mono B3.out.size)).mono (Nat.le_of_lt (heap_lt HX.out))))
          clear b4
          go_wp2
          go_ret2
          exact ⟨_, by rw [HE.out]; rfl, fun _ => ⟨o, rfl, HO.out, S4.out⟩, B4.out⟩
      · rw [decide_eq_false h3] at HR
        have HE := hid (show bErr P k sz ret pol l = 1 from by unfold bErr; rw [if_pos (.inr (.inr h3))])
        clear h hl B1 h1 h2 h3
        go_enter Tryz.func84, Tryz.ntmps84
        go_wp2_with fail
        generalize hBB : w.heap.size = B0 at *
        have HBB := hid hBB
        generalize w.alloc (.cells #[.int .i64 sz, .int .i64 ret, .int .i64 pol, .slice a n c] 30) = w1 at *
        clear hBB
        refine (hNone_no w1 x m H1.out.cell).mono ?_
        rintro e w' ⟨rfl, rfl⟩
        have x0 := HX.out.x0
        have x1 := HX.out.x1
        have x2 := HX.out.x2
        go_wp2_with fail
        refine (HN.out _).mono ?_
        rintro e w2 ⟨o, rfl, s2, ho, b2⟩
        have x3 := (HX.out.keep b2).x3
        have L2 := hid (L1.out.keep b2)
        have B2 := hid b2
        clear b2 s2 ho x0 x1 x2
        go_wp2_with fail
        refine (HK.out _).mono ?_
        rintro e w' ⟨rfl, rfl⟩
        go_wp2_with fail
        refine (HR.out _ L2.out).mono ?_
        rintro e w3 ⟨rfl, b3⟩
        have B3 := hid (show Below w.heap.size w w3 from by rw [HBB.out]; exact HB1.out.trans ((B2.out.trans (b3.mono B2.out.size)).mono (Nat.le_of_lt (heap_lt HX.out))))
        clear b3 x3
        go_wp2
        go_ret2
        exact ⟨none, by rw [HE.out]; rfl, by rw [HE.out]; intro q; omega, B3.out⟩
    · rw [decide_eq_false h2] at HK
      have HE := hid (show bErr P k sz ret pol l = 1 from by unfold bErr; rw [if_pos (.inr (.inl h2))])
      clear h hl B1 h1 h2
      go_enter Tryz.func84, Tryz.ntmps84
      go_wp2_with fail
      generalize hBB : w.heap.size = B0 at *
      have HBB := hid hBB
      generalize w.alloc (.cells #[.int .i64 sz, .int .i64 ret, .int .i64 pol, .slice a n c] 30) = w1 at *
      clear hBB
      refine (hNone_no w1 x m H1.out.cell).mono ?_
      rintro e w' ⟨rfl, rfl⟩
      have x0 := HX.out.x0
      have x1 := HX.out.x1
      have x2 := HX.out.x2
      go_wp2_with fail
      refine (HN.out _).mono ?_
      rintro e w2 ⟨o, rfl, s2, ho, b2⟩
      have B2 := hid (show Below w.heap.size w w2 from by rw [HBB.out]; exact HB1.out.trans (b2.mono (Nat.le_of_lt (heap_lt HX.out))))
      clear b2 s2 ho x0 x1 x2
      go_wp2_with fail
      refine (HK.out _).mono ?_
      rintro e w' ⟨rfl, rfl⟩
      go_wp2
      go_ret2
      exact ⟨none, by rw [HE.out]; rfl, by rw [HE.out]; intro q; omega, B2.out⟩
  · have HN := hid (fun W => snew_bad sz ret pol W h1)
    have HE := hid (show bErr P k sz ret pol l = 1 from by unfold bErr; rw [if_pos (.inl h1)])
    clear h hl B1 h1
    go_enter Tryz.func84, Tryz.ntmps84
    go_wp2_with fail
    generalize hBB : w.heap.size = B0 at *
    have HBB := hid hBB
    generalize w.alloc (.cells #[.int .i64 sz, .int .i64 ret, .int .i64 pol, .slice a n c] 30) = w1 at *
    clear hBB
    refine (hNone_no w1 x m H1.out.cell).mono ?_
    rintro e w' ⟨rfl, rfl⟩
    have x0 := HX.out.x0
    have x1 := HX.out.x1
    have x2 := HX.out.x2
    go_wp2_with fail
    refine (HN.out _).mono ?_
    rintro e w2 ⟨rfl, b2⟩
    have B2 := hid (show Below w.heap.size w w2 from by rw [HBB.out]; exact HB1.out.trans (b2.mono (Nat.le_of_lt (heap_lt HX.out))))
    clear b2 x0 x1 x2
    go_wp2
    go_ret2
    exact ⟨none, by rw [HE.out]; rfl, by rw [HE.out]; intro q; omega, B2.out⟩
theorem keys_set12 {k j : Tx} {l : List Lb} {E : List Ent} : j ∈ keysL (setE k l E) ↔ j = k ∨ j ∈ keysL E := by
  unfold setE
  rw [keys_insG, keys_dels]
  constructor
  · rintro (h | h)
    · exact .inl h
    · exact .inr h.1
  · rintro (h | h)
    · exact .inl h
    · by_cases e : j = k
      · exact .inl e
      · exact .inr ⟨h, e⟩
structure PutT (w w' : World) (x : Nat) (m m' : Mem) (E : List Ent) (o : Nat) (P' : Spc) : Prop where
  sp : SpAt w' x m' P'
  ext : ∀ i, Own m' P'.E i → Own m E i ∨ i = o ∨ w.heap.size ≤ i
  trn : Trn (Own m E) w w'
theorem SpAt.putTurn {w w1 w2 : World} {x : Nat} {m : Mem} {P : Spc} {k : Tx} {l : List Lb} {sz : Int} {s : Ser} {o : Nat} {L : List (Tx × Value)} {ρ' : Rho} (h : SpAt w x m P) (hk : ¬ P.has k) (ho : okE k l)
    (hl2 : ∀ j, look L j = if j ∈ keysL P.E then some (heldV (P.Z j) (m.B j)) else none) (hL : MapAt w m.mb L) (hm : MapAt w1 m.mb (ups L k (heldV sz o))) (g : w.grownBy w1 (some m.mb))
    (t : IxTurn w1 w2 m.ix m.bl m.bn m.ρ ρ' (stepE k l P.E)) (hs : SerAt w o sz s) (hS : Std s) (hz : 128 ≤ sz ∧ sz ≤ 4096) (hO : ¬ Own m P.E o) :
    PutT w w2 x m { m with ρ := ρ', B := upd m.B k o } P.E o (putSp P k sz s l) := by
  have hst : stepE k l P.E = setE k l P.E := if_pos ho
  have t1 : Trn (fun i => i = m.mb) w w1 := .map g rfl hL.isMap
  have tt : Trn (fun i => i = m.mb ∨ FA m.ρ i) w w2 := (t1.mono (G := fun i => i = m.mb ∨ FA m.ρ i) (fun i _ e => .inl e)).trans t.trn (fun i _ f => .inr f)
  have ts := Ts.trn tt
  have hsz1 : w1.heap.size ≥ w.heap.size := g.size
  have hext : ∀ i, FA ρ' i → FA m.ρ i ∨ w.heap.size ≤ i := fun i f => by
    by_cases hi : i < w1.heap.size
    · left; unfold FA at f ⊢; rw [← t.ext i hi]; exact f
    · right; omega
  have hoff : ∀ b sz' s', SerAt w b sz' s' → ¬ (b = m.mb ∨ FA m.ρ b) := fun b sz' s' q => by
    obtain ⟨cs, hc⟩ := q.cellS
    rintro (e | f)
    · obtain ⟨es, c, hmm⟩ := hL.isMap
      rw [← e, hc] at hmm; cases hmm
    · cases e : m.ρ b with
      | none => exact f e
      | some r =>
        obtain ⟨es, c, hmm⟩ := h.ix.ok _ r e
        rw [hc] at hmm; cases hmm
  have hkeys : ∀ j, (putSp P k sz s l).has j ↔ j = k ∨ P.has j := fun j => keys_set12
  have hB : ∀ j, P.has j → m.B j ≠ o := fun j hj e => hO (.inr (.inr (.inr ⟨j, hj, e.symm⟩)))
  refine ⟨⟨ts.cells _ _ _ _ (by decide) (by decide) h.cell, ?_, ?_, h.gr.ts ts (fun i f q => ?_), fun j hj => ?_, fun i j hi hj e => ?_, fun f => ?_, h.mf, fun i f a => ?_, ?_⟩, fun i f => ?_, tt.mono (fun i _ q => ?_)⟩
  · refine ⟨_, hm.same (t.trn.block m.mb hm.lt h.ma), fun j => ?_⟩
    show look (ups L k (heldV sz o)) j = if j ∈ keysL (setE k l P.E) then some (heldV (upd P.Z k sz j) (upd m.B k o j)) else none
    by_cases e : j = k
    · subst e
      rw [look_ups_same, if_pos (keys_set12.2 (.inl rfl)), upd_k, upd_k]
    · rw [look_ups_ne _ e, hl2, upd_n _ _ e, upd_n _ _ e]
      by_cases hj : j ∈ keysL P.E
      · rw [if_pos hj, if_pos (keys_set12.2 (.inr hj))]
      · rw [if_neg hj, if_neg (fun q => (keys_set12.1 q).elim e hj)]
  · show IxAt w2 m.ix m.bl m.bn ρ' (setE k l P.E)
    rw [← hst]; exact t.ix
  · rcases q with e | q
    · exact h.mf (by rw [← e]; exact f)
    · exact h.fa i f q
  · show SerAt w2 (upd m.B k o j) (upd P.Z k sz j) (upd P.S k s j)
    by_cases e : j = k
    · subst e
      rw [upd_k, upd_k, upd_k]
      exact hs.ts ts (hoff _ _ _ hs)
    · rw [upd_n _ _ e, upd_n _ _ e, upd_n _ _ e]
      have hj' := ((hkeys j).1 hj).resolve_left e
      exact (h.ser j hj').ts ts (hoff _ _ _ (h.ser j hj'))
  · replace e : upd m.B k o i = upd m.B k o j := e
    by_cases ei : i = k
    · by_cases ej : j = k
      · rw [ei, ej]
      · rw [ei, upd_k, upd_n _ _ ej] at e
        exact absurd e.symm (hB j (((hkeys j).1 hj).resolve_left ej))
    · by_cases ej : j = k
      · rw [ej, upd_k, upd_n _ _ ei] at e
        exact absurd e (hB i (((hkeys i).1 hi).resolve_left ei))
      · rw [upd_n _ _ ei, upd_n _ _ ej] at e
        exact h.inj i j (((hkeys i).1 hi).resolve_left ei) (((hkeys j).1 hj).resolve_left ej) e
  · rcases hext _ f with q | q
    · exact h.ma q
    · exact absurd (show w.heap.size ≤ m.mb from q) (by have := hL.lt; omega)
  · rcases hext _ a with q | q
    · exact h.fa i f q
    · have := h.gr.lt i f; omega
  · refine ⟨?_, h.ok.gG, fun r hr => ⟨(hkeys _).2 (.inr (h.ok.ends r hr).1), (hkeys _).2 (.inr (h.ok.ends r hr).2)⟩, fun j hj => ?_, fun j hj => ?_⟩
    · show GoodE (setE k l P.E)
      rw [← hst]; exact t.ix.good
    · show Std (upd P.S k s j)
      by_cases e : j = k
      · subst e; rw [upd_k]; exact hS
      · rw [upd_n _ _ e]; exact h.ok.std j (((hkeys j).1 hj).resolve_left e)
    · show 128 ≤ upd P.Z k sz j ∧ upd P.Z k sz j ≤ 4096
      by_cases e : j = k
      · subst e; rw [upd_k]; exact hz
      · rw [upd_n _ _ e]; exact h.ok.siz j (((hkeys j).1 hj).resolve_left e)
  · rcases f with e | f | f | ⟨j, hj, e⟩
    · exact .inl (.inl e)
    · rcases hext i f with q | q
      · exact .inl (.inr (.inl q))
      · exact .inr (.inr q)
    · exact .inl (.inr (.inr (.inl f)))
    · replace e : i = upd m.B k o j := e
      by_cases ej : j = k
      · rw [ej, upd_k] at e; exact .inr (.inl e)
      · rw [upd_n _ _ ej] at e
        exact .inl (.inr (.inr (.inr ⟨j, ((hkeys j).1 hj).resolve_left ej, e⟩)))
  · rcases q with e | q
    · exact .inl e
    · exact .inr (.inl q)
theorem PutT.pre {w w1 w2 : World} {x : Nat} {m m' : Mem} {E : List Ent} {o : Nat} {P' : Spc} (h : PutT w1 w2 x m m' E o P') (b : Below w.heap.size w w1) (ho : w.heap.size ≤ o) : SpTurn w w2 x m m' E P' :=
  ⟨h.sp, fun i f => by
    rcases h.ext i f with q | q | q
    · exact .inl q
    · exact .inr (by omega)
    · exact .inr (Nat.le_trans b.size q), (Ts.trn h.trn).afterB b⟩
theorem hPut (w : World) (x : Nat) (m : Mem) (P : Spc) (k : Tx) (sz ret pol : Int) (a : Option Addr) (n c : Nat) (l : List Lb) (o : Nat) (s : Ser) (h : SpAt w x m P) (hl : LbAt w a n c l) (hk : ¬ P.has k) (ho : okE k l) (hs : SerAt w o sz s) (hS : Std s) (hz : 128 ≤ sz ∧ sz ≤ 4096) (hO : ¬ Own m P.E o) :
    Calls Tryz.prog 85 #[.pointer (some ⟨x, 0, none⟩), .string (bs k), .agg #[.int .i64 sz, .int .i64 ret, .int .i64 pol, .slice a n c], .pointer (some ⟨o, 0, none⟩)] w
      fun e w' => e = .returned (.tuple #[]) ∧ ∃ m' w1, PutT w1 w' x m m' P.E o (putSp P k sz s l) ∧ Below w.heap.size w w1 := by
  have B1 := (Below.refl w.heap.size w).alloc (Nat.le_refl _) (.cells #[.int .i64 sz, .int .i64 ret, .int .i64 pol, .slice a n c] 30)
  have HX := hid (show BoxN (w.alloc (.cells #[.int .i64 sz, .int .i64 ret, .int .i64 pol, .slice a n c] 30)) w.heap.size sz ret pol (.slice a n c) from heap_new w _)
  have H1 := hid (h.keep B1)
  have L1 := hid (hl.keep B1)
  have S1 := hid (hs.keepB B1)
  have HB1 := hid B1
  have HK := hid hk
  have HO := hid ho
  have HSt := hid hS
  have HOn := hid hO
  clear h hl hs B1 hk ho hS hO
  go_enter Tryz.func85, Tryz.ntmps85
  go_wp2_with fail
  generalize hBB : w.heap.size = B0 at *
  have HBB := hid hBB
  generalize w.alloc (.cells #[.int .i64 sz, .int .i64 ret, .int .i64 pol, .slice a n c] 30) = w1 at *
  clear hBB
  refine wp_region_still_tail 9 (by kernel_rfl) (by kernel_rfl) ?_
  simp only [List.take_succ_cons, List.take_zero, List.drop_succ_cons, List.drop_zero]
  change wpStill _ _ w1.drew (fun a' => wpList _ _ _ _ a' w1.drew) _ _
  have bd := (Below.refl w1.heap.size w1).drew
  have H2 := hid (H1.out.keep bd)
  have L2 := hid (L1.out.keep bd)
  have S2 := hid (S1.out.keepB bd)
  have X2 := hid (HX.out.keep bd)
  have HB2 := hid (show Below B0 w w1.drew from HB1.out.trans (bd.mono (Nat.le_of_lt (heap_lt HX.out))))
  clear bd H1 L1 S1 HX HB1
  generalize w1.drew = W at *
  have c0 := H2.out.cell.c0
  have x0 := X2.out.x0
  repeat still_step
  refine wpStill_nil ?_
  obtain ⟨L, l1, l2⟩ := H2.out.map
  have HL1 := hid l1
  have HL2 := hid l2
  clear l1 l2
  go_wp2_with (first
    | (at_mapUpdate; refine wpList_mapUpdate_m _ rfl _ _ _ 92 rfl 9 105 Tryz.underlying92 Tryz.underlying9 m.mb _ rfl HL1.out k _ rfl rfl (heldV sz o) rfl ?_; intro w3 hm3 g3 hs3))
  have t3 : Trn (fun i => i = m.mb) W w3 := .map g3 rfl HL1.out.isMap
  have HM3 := hid hm3
  have G3 := hid g3
  have L3 := hid (L2.out.trn t3)
  have X3 := hid (show BoxN w3 B0 sz ret pol (.slice a n c) from t3.cells _ _ _ _ X2.out)
  have C3 := hid (show SpCell w3 x m from t3.cells _ _ _ _ H2.out.cell)
  have I3 := hid (H2.out.ix.trn t3 (fun i _ f e => H2.out.ma (e ▸ f)))
  clear hm3 g3 hs3 t3 c0 x0
  go_wp2_with fail
  refine wp_region_still_tail 7 (by kernel_rfl) (by kernel_rfl) ?_
  simp only [List.take_succ_cons, List.take_zero, List.drop_succ_cons, List.drop_zero]
  change wpStill _ _ w3.drew (fun a' => wpList _ _ _ _ a' w3.drew) _ _
  have bd := (Below.refl w3.heap.size w3).drew
  have HM4 := hid (HM3.out.keep bd)
  have G4 := hid (gb_trans G3.out (gb_below (row := some m.mb) bd))
  have L4 := hid (L3.out.keep bd)
  have x3 := (X3.out.keep bd).x3
  have c1 := (SpCell.c1 (show SpCell w3.drew x m from C3.out))
  have I4 := hid (I3.out.keep bd)
  clear bd HM3 G3 L3 X3 C3 I3
  generalize w3.drew = W4 at *
  repeat still_step
  refine wpStill_nil ?_
  go_wp2_with fail
  refine (iset_ok W4 m.ix m.bl m.bn m.ρ P.E k a n c l I4.out L4.out).mono ?_
  rintro e w5 ⟨rfl, ρ', t5⟩
  have T5 := hid (H2.out.putTurn (sz := sz) (s := s) (o := o) HK.out HO.out HL2.out HL1.out HM4.out G4.out t5 S2.out HSt.out hz HOn.out)
  clear t5 x3 c1
  go_wp2
  go_end0
  exact ⟨rfl, _, W, T5.out, by rw [HBB.out]; exact HB2.out⟩
end Go.Proofs.YtmifpfojhlmbkaaGreat
