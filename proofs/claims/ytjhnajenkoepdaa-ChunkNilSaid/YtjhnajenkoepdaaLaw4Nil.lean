/-
  The statement 'ChunkNil' of layer 4: for every sample, a chunk that is not there, and one of zeros, has no samples.
  No condition.
-/
import Derived.Test.YtjhnajenkoepdaaCNil
import Derived.ShutString
import Derived.ChangeOld
import Derived.Lib.SmallJoins
namespace Go.Proofs.Ytjhnajenkoepdaa
namespace chunkNil
open Go.ChangeShapes Go.WideShapes Go.ChangeAt Go.RowKit
set_option linter.unusedVariables false
set_option linter.unusedSimpArgs false

theorem own : ownKnob Try.prog.godebug = none := by kernel_rfl
theorem laidOut : laidOutB Try.prog = true := by kernel_rfl

theorem open_sample {H : Type} {enc : TypeId × Value → H} {W : World} {r : Reach} {b0 : Nat} {v : Value} {d : DataW H} {p : List MemPlace}
    (hv : Value.okWide Try.prog W r b0 31 v) (h : DataW.Trod enc Try.prog W 0 (fun _ => true) true 31 v d p) :
    ∃ z : Int × Int, v = .agg #[.int .i64 z.1, .int .i64 z.2] ∧ in64 z.1 ∧ in64 z.2 := by
  obtain ⟨v0, v1, y0, y1, n, rfl, _, _, h0, h1⟩ := Go.Joins.open_agg2 Try.underlying31 (by kernel_rfl) (by kernel_rfl) hv h
  obtain ⟨n0, e0, _, w0⟩ := DataW.trod_int Try.underlying3 h0
  obtain ⟨n1, e1, _, w1⟩ := DataW.trod_int Try.underlying3 h1
  simp at e0 e1
  subst e0 e1
  exact ⟨(n0, n1), rfl, bounds_i64 w0, bounds_i64 w1⟩

set_option maxRecDepth 100000 in
set_option maxHeartbeats 4000000 in
theorem walk (s : Int × Int) (w : World) (hs : in64 s.1 ∧ in64 s.2) :
    Calls Try.prog 6 #[.agg #[.int .i64 s.1, .int .i64 s.2]] w fun e w' => e = .returned (.bool true) ∧ Below w.heap.size w w' := by
  obtain ⟨T, V⟩ := s
  simp only
  have HS0 := Lib.hid (heap_new w (.cells #[.int .i64 T, .int .i64 V] 31))
  have B0 := (Below.refl w.heap.size w).alloc (Nat.le_refl _) (.cells #[.int .i64 T, .int .i64 V] 31)
  have n0 : w.heap.size < (w.alloc (.cells #[.int .i64 T, .int .i64 V] 31)).heap.size := by simp
  have hz0 := Lib.hid (show (w.alloc (.cells #[.int .i64 T, .int .i64 V] 31)).heap.size = w.heap.size + 1 from by simp)
  go_enter Try.func6, Try.ntmps6
  go_wp2_with fail
  generalize w.alloc (.cells #[.int .i64 T, .int .i64 V] 31) = V0 at *
  have HZ0 : Hid (ZeroAt (V0.alloc (.cells #[.int .i64 0, .slice none 0 0] 53)) V0.heap.size) := Lib.hid (heap_new V0 _)
  have hS1 := Lib.hid (heap_old (o := .cells #[.int .i64 0, .slice none 0 0] 53) HS0.out)
  have B1 := B0.alloc (Nat.le_of_lt n0) (.cells #[.int .i64 0, .slice none 0 0] 53)
  have n1 : w.heap.size < (V0.alloc (.cells #[.int .i64 0, .slice none 0 0] 53)).heap.size := by simp; omega
  rw [hz0.out] at HZ0
  clear HS0 B0 n0
  generalize V0.alloc (.cells #[.int .i64 0, .slice none 0 0] 53) = W0 at *
  generalize w.heap.size + 1 = kz at HZ0 ⊢
  clear hz0
  have HS0 := hS1
  have B0 := B1
  have n0 := n1
  clear hS1 B1 n1
  generalize hks : w.heap.size = ks at HS0 n0 ⊢
  have HKS := Lib.hid hks
  rw [hks] at B0
  clear hks
  have t0 : W0.cell? ⟨ks, 0, none⟩ = some (.int .i64 T) := by rw [cell_of HS0.out]; rfl
  have t1 : W0.cell? ⟨ks, 1, none⟩ = some (.int .i64 V) := by rw [cell_of HS0.out]; rfl
  go_wp2_with fail
  refine (get_nil T W0).mono ?_
  rintro e W1 ⟨rfl, g⟩
  have g' : W0.grownBy W1 none := gb_below g
  have HS1 := Lib.hid ((g'.block ks n0 (by simp)).trans HS0.out)
  have HZ1 := Lib.hid (HZ0.out.keep g')
  have B1 := bel_gbn B0 (Nat.le_of_lt n0) g'
  have n1 := Nat.lt_of_lt_of_le n0 g'.size
  clear g' HS0 HZ0 B0 n0 t0 t1
  have t0 : W1.cell? ⟨ks, 0, none⟩ = some (.int .i64 T) := by rw [cell_of HS1.out]; rfl
  have t1 : W1.cell? ⟨ks, 1, none⟩ = some (.int .i64 V) := by rw [cell_of HS1.out]; rfl
  go_wp2_with fail
  refine (get_zero kz T W1 HZ1.out).mono ?_
  rintro e W2 ⟨rfl, g⟩
  have g' : W1.grownBy W2 none := gb_below g
  have HS2 := Lib.hid ((g'.block ks n1 (by simp)).trans HS1.out)
  have HZ2 := Lib.hid (HZ1.out.keep g')
  have B2 := bel_gbn B1 (Nat.le_of_lt n1) g'
  have n2 := Nat.lt_of_lt_of_le n1 g'.size
  clear g' HS1 HZ1 B1 n1 t0 t1
  have t0 : W2.cell? ⟨ks, 0, none⟩ = some (.int .i64 T) := by rw [cell_of HS2.out]; rfl
  have t1 : W2.cell? ⟨ks, 1, none⟩ = some (.int .i64 V) := by rw [cell_of HS2.out]; rfl
  go_wp2_with fail
  refine (first_nil W2).mono ?_
  rintro e W3 ⟨rfl, g⟩
  have g' : W2.grownBy W3 none := gb_below g
  have HS3 := Lib.hid ((g'.block ks n2 (by simp)).trans HS2.out)
  have HZ3 := Lib.hid (HZ2.out.keep g')
  have B3 := bel_gbn B2 (Nat.le_of_lt n2) g'
  have n3 := Nat.lt_of_lt_of_le n2 g'.size
  clear g' HS2 HZ2 B2 n2 t0 t1
  have t0 : True := trivial
  have t1 : True := trivial
  have g' := World.grownBy_alloc W3 (.cells #[.int .i64 0, .int .i64 0] 31) none
  have HWX : Hid (W3.alloc (.cells #[.int .i64 0, .int .i64 0] 31) = W3.alloc (.cells #[.int .i64 0, .int .i64 0] 31)) := Lib.hid rfl
  have hx : ∃ W4, W3.alloc (.cells #[.int .i64 0, .int .i64 0] 31) = W4 := ⟨_, rfl⟩
  obtain ⟨W4, hx⟩ := hx
  rw [hx] at g'
  have HX4 := Lib.hid hx
  clear hx HWX
  have HS4 := Lib.hid ((g'.block ks n3 (by simp)).trans HS3.out)
  have HZ4 := Lib.hid (HZ3.out.keep g')
  have B4 := bel_gbn B3 (Nat.le_of_lt n3) g'
  have n4 := Nat.lt_of_lt_of_le n3 g'.size
  clear g' HS3 HZ3 B3 n3 t0 t1
  go_wp2_with fail
  rw [HX4.out]
  clear HX4
  have t0 : W4.cell? ⟨ks, 0, none⟩ = some (.int .i64 T) := by rw [cell_of HS4.out]; rfl
  have t1 : W4.cell? ⟨ks, 1, none⟩ = some (.int .i64 V) := by rw [cell_of HS4.out]; rfl
  refine (last_zero kz W4 HZ4.out).mono ?_
  rintro e W5 ⟨rfl, g⟩
  have g' : W4.grownBy W5 none := gb_below g
  have HS5 := Lib.hid ((g'.block ks n4 (by simp)).trans HS4.out)
  have HZ5 := Lib.hid (HZ4.out.keep g')
  have B5 := bel_gbn B4 (Nat.le_of_lt n4) g'
  have n5 := Nat.lt_of_lt_of_le n4 g'.size
  clear g' HS4 HZ4 B4 n4 t0 t1
  have t0 : True := trivial
  have t1 : True := trivial
  have g' := World.grownBy_alloc W5 (.cells #[.int .i64 0, .int .i64 0] 31) none
  have HWX : Hid (W5.alloc (.cells #[.int .i64 0, .int .i64 0] 31) = W5.alloc (.cells #[.int .i64 0, .int .i64 0] 31)) := Lib.hid rfl
  have hx : ∃ W6, W5.alloc (.cells #[.int .i64 0, .int .i64 0] 31) = W6 := ⟨_, rfl⟩
  obtain ⟨W6, hx⟩ := hx
  rw [hx] at g'
  have HX6 := Lib.hid hx
  clear hx HWX
  have HS6 := Lib.hid ((g'.block ks n5 (by simp)).trans HS5.out)
  have HZ6 := Lib.hid (HZ5.out.keep g')
  have B6 := bel_gbn B5 (Nat.le_of_lt n5) g'
  have n6 := Nat.lt_of_lt_of_le n5 g'.size
  clear g' HS5 HZ5 B5 n5 t0 t1
  go_wp2_with fail
  rw [HX6.out]
  clear HX6
  have t0 : W6.cell? ⟨ks, 0, none⟩ = some (.int .i64 T) := by rw [cell_of HS6.out]; rfl
  have t1 : W6.cell? ⟨ks, 1, none⟩ = some (.int .i64 V) := by rw [cell_of HS6.out]; rfl
  refine (split_nil W6).mono ?_
  rintro e W7 ⟨rfl, g⟩
  have g' : W6.grownBy W7 none := gb_below g
  have HS7 := Lib.hid ((g'.block ks n6 (by simp)).trans HS6.out)
  have HZ7 := Lib.hid (HZ6.out.keep g')
  have B7 := bel_gbn B6 (Nat.le_of_lt n6) g'
  have n7 := Nat.lt_of_lt_of_le n6 g'.size
  clear g' HS6 HZ6 B6 n6 t0 t1
  have t0 : W7.cell? ⟨ks, 0, none⟩ = some (.int .i64 T) := by rw [cell_of HS7.out]; rfl
  have t1 : W7.cell? ⟨ks, 1, none⟩ = some (.int .i64 V) := by rw [cell_of HS7.out]; rfl
  go_wp2_with fail
  refine (split_zero kz W7 HZ7.out).mono ?_
  rintro e W8 ⟨rfl, g⟩
  have g' : W7.grownBy W8 none := gb_below g
  have HS8 := Lib.hid ((g'.block ks n7 (by simp)).trans HS7.out)
  have HZ8 := Lib.hid (HZ7.out.keep g')
  have B8 := bel_gbn B7 (Nat.le_of_lt n7) g'
  have n8 := Nat.lt_of_lt_of_le n7 g'.size
  clear g' HS7 HZ7 B7 n7 t0 t1
  have t0 : W8.cell? ⟨ks, 0, none⟩ = some (.int .i64 T) := by rw [cell_of HS8.out]; rfl
  have t1 : W8.cell? ⟨ks, 1, none⟩ = some (.int .i64 V) := by rw [cell_of HS8.out]; rfl
  go_wp2_with fail
  refine (cnew_at 128 W8 (by omega) (by omega)).mono ?_
  rintro e W9 ⟨rfl, po, g, _⟩
  have g' : W8.grownBy W9 none := gb_below g
  have HO9 := Lib.hid po
  clear po
  have HS9 := Lib.hid ((g'.block ks n8 (by simp)).trans HS8.out)
  have HZ9 := Lib.hid (HZ8.out.keep g')
  have B9 := bel_gbn B8 (Nat.le_of_lt n8) g'
  have n9 := Nat.lt_of_lt_of_le n8 g'.size
  clear g' HS8 HZ8 B8 n8 t0 t1
  generalize W8.heap.size = o at *
  have t0 : W9.cell? ⟨ks, 0, none⟩ = some (.int .i64 T) := by rw [cell_of HS9.out]; rfl
  have t1 : W9.cell? ⟨ks, 1, none⟩ = some (.int .i64 V) := by rw [cell_of HS9.out]; rfl
  go_wp2_with fail
  refine (put_nil T V 1 W9).mono ?_
  rintro e W10 ⟨rfl, g⟩
  have g' : W9.grownBy W10 none := gb_below g
  have HS10 := Lib.hid ((g'.block ks n9 (by simp)).trans HS9.out)
  have HZ10 := Lib.hid (HZ9.out.keep g')
  have B10 := bel_gbn B9 (Nat.le_of_lt n9) g'
  have n10 := Nat.lt_of_lt_of_le n9 g'.size
  have HO10 := Lib.hid (CAt.keepN HO9.out g')
  clear g' HS9 HZ9 B9 n9 t0 t1
  clear HO9
  have t0 : W10.cell? ⟨ks, 0, none⟩ = some (.int .i64 T) := by rw [cell_of HS10.out]; rfl
  have t1 : W10.cell? ⟨ks, 1, none⟩ = some (.int .i64 V) := by rw [cell_of HS10.out]; rfl
  go_wp2_with fail
  refine (put_zero kz T V 1 W10 HZ10.out).mono ?_
  rintro e W11 ⟨rfl, g⟩
  have g' : W10.grownBy W11 none := gb_below g
  have HS11 := Lib.hid ((g'.block ks n10 (by simp)).trans HS10.out)
  have HZ11 := Lib.hid (HZ10.out.keep g')
  have B11 := bel_gbn B10 (Nat.le_of_lt n10) g'
  have n11 := Nat.lt_of_lt_of_le n10 g'.size
  have HO11 := Lib.hid (CAt.keepN HO10.out g')
  clear g' HS10 HZ10 B10 n10 t0 t1
  clear HO10
  have t0 : W11.cell? ⟨ks, 0, none⟩ = some (.int .i64 T) := by rw [cell_of HS11.out]; rfl
  have t1 : W11.cell? ⟨ks, 1, none⟩ = some (.int .i64 V) := by rw [cell_of HS11.out]; rfl
  go_wp2_with fail
  refine (drop_nil 0 9 W11).mono ?_
  rintro e W12 ⟨rfl, g⟩
  have g' : W11.grownBy W12 none := gb_below g
  have HS12 := Lib.hid ((g'.block ks n11 (by simp)).trans HS11.out)
  have HZ12 := Lib.hid (HZ11.out.keep g')
  have B12 := bel_gbn B11 (Nat.le_of_lt n11) g'
  have n12 := Nat.lt_of_lt_of_le n11 g'.size
  have HO12 := Lib.hid (CAt.keepN HO11.out g')
  clear g' HS11 HZ11 B11 n11 t0 t1
  clear HO11
  have t0 : W12.cell? ⟨ks, 0, none⟩ = some (.int .i64 T) := by rw [cell_of HS12.out]; rfl
  have t1 : W12.cell? ⟨ks, 1, none⟩ = some (.int .i64 V) := by rw [cell_of HS12.out]; rfl
  go_wp2_with fail
  refine (join_nil (.pointer (some ⟨o, 0, none⟩)) W12).mono ?_
  rintro e W13 ⟨rfl, g⟩
  have g' : W12.grownBy W13 none := gb_below g
  have HS13 := Lib.hid ((g'.block ks n12 (by simp)).trans HS12.out)
  have HZ13 := Lib.hid (HZ12.out.keep g')
  have B13 := bel_gbn B12 (Nat.le_of_lt n12) g'
  have n13 := Nat.lt_of_lt_of_le n12 g'.size
  have HO13 := Lib.hid (CAt.keepN HO12.out g')
  clear g' HS12 HZ12 B12 n12 t0 t1
  clear HO12
  have t0 : W13.cell? ⟨ks, 0, none⟩ = some (.int .i64 T) := by rw [cell_of HS13.out]; rfl
  have t1 : W13.cell? ⟨ks, 1, none⟩ = some (.int .i64 V) := by rw [cell_of HS13.out]; rfl
  go_wp2_with fail
  refine (join_to_nil o 128 [] W13 HO13.out (by omega)).mono ?_
  rintro e W14 ⟨rfl, g⟩
  have g' : W13.grownBy W14 none := gb_below g
  have HS14 := Lib.hid ((g'.block ks n13 (by simp)).trans HS13.out)
  have HZ14 := Lib.hid (HZ13.out.keep g')
  have B14 := bel_gbn B13 (Nat.le_of_lt n13) g'
  have n14 := Nat.lt_of_lt_of_le n13 g'.size
  have HO14 := Lib.hid (CAt.keepN HO13.out g')
  clear g' HS13 HZ13 B13 n13 t0 t1
  clear HO13
  have t0 : W14.cell? ⟨ks, 0, none⟩ = some (.int .i64 T) := by rw [cell_of HS14.out]; rfl
  have t1 : W14.cell? ⟨ks, 1, none⟩ = some (.int .i64 V) := by rw [cell_of HS14.out]; rfl
  go_wp2_with fail
  refine (join_to_zero o kz 128 [] W14 HO14.out (by omega) HZ14.out).mono ?_
  rintro e W15 ⟨rfl, g⟩
  have g' : W14.grownBy W15 none := gb_below g
  have HS15 := Lib.hid ((g'.block ks n14 (by simp)).trans HS14.out)
  have HZ15 := Lib.hid (HZ14.out.keep g')
  have B15 := bel_gbn B14 (Nat.le_of_lt n14) g'
  have n15 := Nat.lt_of_lt_of_le n14 g'.size
  have HO15 := Lib.hid (CAt.keepN HO14.out g')
  clear g' HS14 HZ14 B14 n14 t0 t1
  clear HO14
  have t0 : W15.cell? ⟨ks, 0, none⟩ = some (.int .i64 T) := by rw [cell_of HS15.out]; rfl
  have t1 : W15.cell? ⟨ks, 1, none⟩ = some (.int .i64 V) := by rw [cell_of HS15.out]; rfl
  go_wp2_with fail
  refine (join_self o 128 [] W15 HO15.out (by omega)).mono ?_
  rintro e W16 ⟨rfl, g⟩
  have g' : W15.grownBy W16 none := gb_below g
  have HS16 := Lib.hid ((g'.block ks n15 (by simp)).trans HS15.out)
  have HZ16 := Lib.hid (HZ15.out.keep g')
  have B16 := bel_gbn B15 (Nat.le_of_lt n15) g'
  have n16 := Nat.lt_of_lt_of_le n15 g'.size
  have HO16 := Lib.hid (CAt.keepN HO15.out g')
  clear g' HS15 HZ15 B15 n15 t0 t1
  clear HO15
  have t0 : W16.cell? ⟨ks, 0, none⟩ = some (.int .i64 T) := by rw [cell_of HS16.out]; rfl
  have t1 : W16.cell? ⟨ks, 1, none⟩ = some (.int .i64 V) := by rw [cell_of HS16.out]; rfl
  go_wp2_with fail
  refine (all_nil W16).mono ?_
  rintro e W17 ⟨aa, ca, rfl, _, g⟩
  have g' : W16.grownBy W17 none := gb_below g
  have HS17 := Lib.hid ((g'.block ks n16 (by simp)).trans HS16.out)
  have HZ17 := Lib.hid (HZ16.out.keep g')
  have B17 := bel_gbn B16 (Nat.le_of_lt n16) g'
  have n17 := Nat.lt_of_lt_of_le n16 g'.size
  have HO17 := Lib.hid (CAt.keepN HO16.out g')
  clear g' HS16 HZ16 B16 n16 t0 t1
  clear HO16
  have t0 : W17.cell? ⟨ks, 0, none⟩ = some (.int .i64 T) := by rw [cell_of HS17.out]; rfl
  have t1 : W17.cell? ⟨ks, 1, none⟩ = some (.int .i64 V) := by rw [cell_of HS17.out]; rfl
  go_wp2_with fail
  refine (len_nil W17).mono ?_
  rintro e W18 ⟨rfl, g⟩
  have g' : W17.grownBy W18 none := gb_below g
  have HS18 := Lib.hid ((g'.block ks n17 (by simp)).trans HS17.out)
  have HZ18 := Lib.hid (HZ17.out.keep g')
  have B18 := bel_gbn B17 (Nat.le_of_lt n17) g'
  have n18 := Nat.lt_of_lt_of_le n17 g'.size
  have HO18 := Lib.hid (CAt.keepN HO17.out g')
  clear g' HS17 HZ17 B17 n17 t0 t1
  clear HO17
  have t0 : W18.cell? ⟨ks, 0, none⟩ = some (.int .i64 T) := by rw [cell_of HS18.out]; rfl
  have t1 : W18.cell? ⟨ks, 1, none⟩ = some (.int .i64 V) := by rw [cell_of HS18.out]; rfl
  go_wp2_with fail
  refine (used_zero kz W18 HZ18.out).mono ?_
  rintro e W19 ⟨rfl, g⟩
  have g' : W18.grownBy W19 none := gb_below g
  have HS19 := Lib.hid ((g'.block ks n18 (by simp)).trans HS18.out)
  have HZ19 := Lib.hid (HZ18.out.keep g')
  have B19 := bel_gbn B18 (Nat.le_of_lt n18) g'
  have n19 := Nat.lt_of_lt_of_le n18 g'.size
  have HO19 := Lib.hid (CAt.keepN HO18.out g')
  clear g' HS18 HZ18 B18 n18 t0 t1
  clear HO18
  have t0 : W19.cell? ⟨ks, 0, none⟩ = some (.int .i64 T) := by rw [cell_of HS19.out]; rfl
  have t1 : W19.cell? ⟨ks, 1, none⟩ = some (.int .i64 V) := by rw [cell_of HS19.out]; rfl
  go_wp2_with fail
  refine (size_nil W19).mono ?_
  rintro e W20 ⟨rfl, g⟩
  have g' : W19.grownBy W20 none := gb_below g
  have HS20 := Lib.hid ((g'.block ks n19 (by simp)).trans HS19.out)
  have HZ20 := Lib.hid (HZ19.out.keep g')
  have B20 := bel_gbn B19 (Nat.le_of_lt n19) g'
  have n20 := Nat.lt_of_lt_of_le n19 g'.size
  have HO20 := Lib.hid (CAt.keepN HO19.out g')
  clear g' HS19 HZ19 B19 n19 t0 t1
  clear HO19
  have t0 : W20.cell? ⟨ks, 0, none⟩ = some (.int .i64 T) := by rw [cell_of HS20.out]; rfl
  have t1 : W20.cell? ⟨ks, 1, none⟩ = some (.int .i64 V) := by rw [cell_of HS20.out]; rfl
  go_wp2_with fail
  refine (copy_zero kz W20 HZ20.out).mono ?_
  rintro e W21 ⟨rfl, g⟩
  have g' : W20.grownBy W21 none := gb_below g
  have HS21 := Lib.hid ((g'.block ks n20 (by simp)).trans HS20.out)
  have HZ21 := Lib.hid (HZ20.out.keep g')
  have B21 := bel_gbn B20 (Nat.le_of_lt n20) g'
  have n21 := Nat.lt_of_lt_of_le n20 g'.size
  have HO21 := Lib.hid (CAt.keepN HO20.out g')
  clear g' HS20 HZ20 B20 n20 t0 t1
  clear HO20
  have t0 : W21.cell? ⟨ks, 0, none⟩ = some (.int .i64 T) := by rw [cell_of HS21.out]; rfl
  have t1 : W21.cell? ⟨ks, 1, none⟩ = some (.int .i64 V) := by rw [cell_of HS21.out]; rfl
  go_wp2_with fail
  refine (cknown_any W21).mono ?_
  rintro e W22 ⟨rfl, g⟩
  have g' : W21.grownBy W22 none := gb_below g
  have HS22 := Lib.hid ((g'.block ks n21 (by simp)).trans HS21.out)
  have HZ22 := Lib.hid (HZ21.out.keep g')
  have B22 := bel_gbn B21 (Nat.le_of_lt n21) g'
  have n22 := Nat.lt_of_lt_of_le n21 g'.size
  have HO22 := Lib.hid (CAt.keepN HO21.out g')
  clear g' HS21 HZ21 B21 n21 t0 t1
  clear HO21
  go_wp2
  go_ret
  exact ⟨rfl, by rw [HKS.out]; exact B22⟩

set_option maxRecDepth 100000 in
theorem lifted (os : Os) (started : os.Started) (H : Type) (enc : TypeId × Value → H) :
    ReturnsInHanded {} Try.checked os 6 .any (Rows.chunkNilSpec.pre6 enc Try.prog Try.f6 Rows.chunkNilRow.domain false) (Rows.chunkNilSpec.post enc Try.prog Try.f6 false true false false) := by
  refine returnsInHanded_of_change (C := Try.checked) own started (by kernel_rfl) Try.func6
    (ChangeSpec.witness6 (enc := enc) (C := Try.checked) false ⟨#[], #[.agg #[.int .i64 0, .int .i64 0]], []⟩ 8 (by kernel_rfl) (by kernel_rfl) (by kernel_rfl) (by kernel_rfl)) ?_
  intro W base args ds gs before hval0 hW hcnd _
  have hval : ∀ (j : Nat) t v, Try.f6.params[j]? = some t → args[j]? = some v → Value.okWide Try.prog W .any base t v := hval0
  have hW' := hW
  obtain ⟨p, q, hA0, hV, rfl, hfz, hnd⟩ := hW
  have hA : DataW.TrodAll enc Try.prog W 0 (fun _ => true) true Try.f6.params.toList args.toList ds p := hA0
  rw [Try.params6] at hA hval
  obtain ⟨v0, vs0, d0, ds0, p0, q0, hargs, rfl, rfl, h0, r0⟩ := trodAll_cons hA
  obtain ⟨rfl, rfl, rfl⟩ := trodAll_nil r0
  obtain rfl : args = #[v0] := by cases args; simp_all
  obtain ⟨rfl, rfl⟩ := trodVars_none hV
  have k0 := h0
  have lt0 : ∀ x ∈ p0, x.block < W.heap.size := by obtain ⟨m, hm⟩ := k0; exact DataW.trod_lt m _ _ _ hm
  obtain ⟨a0, rfl, w0⟩ := open_sample (hval 0 31 v0 rfl rfl) h0
  clear hA0 hval0
  refine (walk a0 W w0).mono fun e W' ⟨he, bel⟩ => ?_
  subst he
  exact ⟨_, rfl, _, _, _, [], _, [], hW', trodAll_mk1 (shut_bool Try.underlying4 _), (trodAll_cons_mk (Below.trod laidOut (by kernel_rfl) (of_decide_eq_true (by kernel_rfl)) k0 bel lt0) trodAll_mk0), rfl, bel.frame _, fun h => by cases h⟩

theorem over : Rows.chunkNilRow.holds Try.pinned (OpenSpec.ofChange Rows.chunkNilSpec) :=
  OpenClaim.holds_of_wide 6 Try.f6 rfl rfl rfl rfl rfl rfl rfl ⟨rfl, rfl, rfl, rfl, rfl⟩ rfl rfl rfl rfl rfl (by kernel_rfl) Try.func6 (by kernel_rfl)
    (of_decide_eq_true (by kernel_rfl)) (by unfold Func.isWrapper; first | (rw [if_pos (by decide +kernel)]; kernel_rfl) | (rw [if_neg (by decide +kernel)]; exact ⟨rfl, rfl⟩))
    (fun os started H enc _ => lifted os started H enc)

theorem proved : Rows.ChunkNilSaid := over
end chunkNil
theorem chunkNil_holds : Rows.ChunkNilSaid := chunkNil.proved
#print axioms chunkNil_holds
end Go.Proofs.Ytjhnajenkoepdaa
