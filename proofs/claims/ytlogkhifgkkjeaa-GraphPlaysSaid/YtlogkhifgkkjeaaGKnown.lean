/-
  Contract of law11's known.
-/
import Derived.Test.YtlogkhifgkkjeaaGOwn
namespace Go.Proofs.Ytlogkhifgkkjeaa
open Go.RowKit
set_option linter.unusedVariables false
set_option linter.unusedSimpArgs false

theorem twenty {w : World} {b_K2 b_K10 b_K12 b9 o9 : Nat} (h1 : BoxU 31 w b_K2 (⟨[97], [98], 1, 10, 0⟩ : Ru)) (h2 : BoxU 31 w b_K10 (⟨[97], [98], 1, 10, 0⟩ : Ru)) (h3 : BoxU 31 w b_K12 (⟨[97], [98], 1, 10, 0⟩ : Ru)) (hu : U5 w b9 o9 (⟨[97], [98], 1, 10, 0⟩ : Ru)) : w.cell? ⟨b_K2, 0, none⟩ = some (.string ⟨#[97]⟩) ∧ w.cell? ⟨b_K2, 1, none⟩ = some (.string ⟨#[98]⟩) ∧ w.cell? ⟨b_K2, 2, none⟩ = some (.int .i64 1) ∧ w.cell? ⟨b_K2, 3, none⟩ = some (.int .i64 10) ∧ w.cell? ⟨b_K2, 4, none⟩ = some (.int .i64 0) ∧ w.cell? ⟨b_K10, 0, none⟩ = some (.string ⟨#[97]⟩) ∧ w.cell? ⟨b_K10, 1, none⟩ = some (.string ⟨#[98]⟩) ∧ w.cell? ⟨b_K10, 2, none⟩ = some (.int .i64 1) ∧ w.cell? ⟨b_K10, 3, none⟩ = some (.int .i64 10) ∧ w.cell? ⟨b_K10, 4, none⟩ = some (.int .i64 0) ∧ w.cell? ⟨b_K12, 0, none⟩ = some (.string ⟨#[97]⟩) ∧ w.cell? ⟨b_K12, 1, none⟩ = some (.string ⟨#[98]⟩) ∧ w.cell? ⟨b_K12, 2, none⟩ = some (.int .i64 1) ∧ w.cell? ⟨b_K12, 3, none⟩ = some (.int .i64 10) ∧ w.cell? ⟨b_K12, 4, none⟩ = some (.int .i64 0) ∧ w.cell? ⟨b9, o9, none⟩ = some (.string ⟨#[97]⟩) ∧ w.cell? ⟨b9, o9 + 1, none⟩ = some (.string ⟨#[98]⟩) ∧ w.cell? ⟨b9, o9 + 2, none⟩ = some (.int .i64 1) ∧ w.cell? ⟨b9, o9 + 3, none⟩ = some (.int .i64 10) ∧ w.cell? ⟨b9, o9 + 4, none⟩ = some (.int .i64 0) :=
  ⟨h1.x0, h1.x1, h1.x2, h1.x3, h1.x4, h2.x0, h2.x1, h2.x2, h2.x3, h2.x4, h3.x0, h3.x1, h3.x2, h3.x3, h3.x4, hu.x0, hu.x1, hu.x2, hu.x3, hu.x4⟩
theorem right_ab (w : World) : Calls Try.prog 27 #[(.agg #[.string ⟨#[97]⟩, .string ⟨#[98]⟩, .int .i64 1, .int .i64 10, .int .i64 0])] w fun e w' => e = .returned (.bool true) ∧ Below w.heap.size w w' := by
  have C := gright_any (⟨[97], [98], 1, 10, 0⟩ : Ru) w
  rw [show decide (rightU (⟨[97], [98], 1, 10, 0⟩ : Ru)) = true from by decide +kernel] at C
  exact C
theorem right_0 (w : World) : Calls Try.prog 27 #[.agg #[.string ⟨#[]⟩, .string ⟨#[]⟩, .int .i64 0, .int .i64 0, .int .i64 0]] w fun e w' => e = .returned (.bool false) ∧ Below w.heap.size w w' := by
  have C := gright_any (⟨[], [], 0, 0, 0⟩ : Ru) w
  rw [show decide (rightU (⟨[], [], 0, 0, 0⟩ : Ru)) = false from by decide +kernel] at C
  exact C

set_option maxRecDepth 100000 in
set_option maxHeartbeats 16000000 in
theorem known11_any (w : World) :
    Calls Try.prog 10 #[] w fun e w' => e = .returned (.bool true) ∧ Below w.heap.size w w' := by
  go_enter Try.func10, Try.ntmps10
  go_wp2_with fail
  refine (gnew_any _).mono ?_
  rintro e W1 ⟨x, bi, bf, F0, rfl, hg, hb, hx, hF⟩
  have X : Hid (GOwn w.heap.size w W1 x bi bf F0 []) := Lib.hid (GOwn.new (Below.refl _ _) (Nat.le_refl _) hg hb hx hF)
  clear hg hb hx hF
  go_wp2_with fail
  have br := (Below.refl W1.heap.size W1).alloc (Nat.le_refl _) (.cells #[.string ⟨#[97]⟩, .string ⟨#[98]⟩, .int .i64 1, .int .i64 10, .int .i64 0] 31)
  have bn : BoxO 31 F0 (W1.alloc (.cells #[.string ⟨#[97]⟩, .string ⟨#[98]⟩, .int .i64 1, .int .i64 10, .int .i64 0] 31)) W1.heap.size (⟨[97], [98], 1, 10, 0⟩ : Ru) := BoxO.new 31 X.out.gr (⟨[97], [98], 1, 10, 0⟩ : Ru)
  have K2 := Lib.hid bn
  replace X := Lib.hid (X.out.keep br)
  clear br bn
  generalize W1.alloc (.cells #[.string ⟨#[97]⟩, .string ⟨#[98]⟩, .int .i64 1, .int .i64 10, .int .i64 0] 31) = W2 at *
  generalize W1.heap.size = b_K2 at *
  go_wp2_with fail
  have C := oadd (⟨[97], [98], 1, 10, 0⟩ : Ru) X.out (by decide)
  rw [show addE ([] : List Ru) (⟨[97], [98], 1, 10, 0⟩ : Ru) = 0 from by decide +kernel, show addU ([] : List Ru) (⟨[97], [98], 1, 10, 0⟩ : Ru) = [(⟨[97], [98], 1, 10, 0⟩ : Ru)] from by decide +kernel] at C
  replace C := Lib.hid C
  refine (C.out).mono ?_
  rintro e W3 ⟨rfl, F1, oo, tt⟩
  clear C
  replace X := Lib.hid oo
  replace K2 := Lib.hid (K2.out.turn tt)
  clear tt oo
  go_wp2_with fail
  have C := oadd (⟨[98], [99], 1, 10, 0⟩ : Ru) X.out (by decide)
  rw [show addE [(⟨[97], [98], 1, 10, 0⟩ : Ru)] (⟨[98], [99], 1, 10, 0⟩ : Ru) = 10 from by decide +kernel, show addU [(⟨[97], [98], 1, 10, 0⟩ : Ru)] (⟨[98], [99], 1, 10, 0⟩ : Ru) = [(⟨[97], [98], 1, 10, 0⟩ : Ru)] from by decide +kernel] at C
  replace C := Lib.hid C
  refine (C.out).mono ?_
  rintro e W4 ⟨rfl, F2, oo, tt⟩
  clear C
  replace X := Lib.hid oo
  replace K2 := Lib.hid (K2.out.turn tt)
  clear tt oo
  go_wp2_with fail
  have C := oadd (⟨[97], [99], 2, 5, 4⟩ : Ru) X.out (by decide)
  rw [show addE [(⟨[97], [98], 1, 10, 0⟩ : Ru)] (⟨[97], [99], 2, 5, 4⟩ : Ru) = 0 from by decide +kernel, show addU [(⟨[97], [98], 1, 10, 0⟩ : Ru)] (⟨[97], [99], 2, 5, 4⟩ : Ru) = [(⟨[97], [98], 1, 10, 0⟩ : Ru), (⟨[97], [99], 2, 5, 4⟩ : Ru)] from by decide +kernel] at C
  replace C := Lib.hid C
  refine (C.out).mono ?_
  rintro e W5 ⟨rfl, F3, oo, tt⟩
  clear C
  replace X := Lib.hid oo
  replace K2 := Lib.hid (K2.out.turn tt)
  clear tt oo
  go_wp2_with fail
  have C := oadd (⟨[100], [99], 1, 10, 0⟩ : Ru) X.out (by decide)
  rw [show addE [(⟨[97], [98], 1, 10, 0⟩ : Ru), (⟨[97], [99], 2, 5, 4⟩ : Ru)] (⟨[100], [99], 1, 10, 0⟩ : Ru) = 6 from by decide +kernel, show addU [(⟨[97], [98], 1, 10, 0⟩ : Ru), (⟨[97], [99], 2, 5, 4⟩ : Ru)] (⟨[100], [99], 1, 10, 0⟩ : Ru) = [(⟨[97], [98], 1, 10, 0⟩ : Ru), (⟨[97], [99], 2, 5, 4⟩ : Ru)] from by decide +kernel] at C
  replace C := Lib.hid C
  refine (C.out).mono ?_
  rintro e W6 ⟨rfl, F4, oo, tt⟩
  clear C
  replace X := Lib.hid oo
  replace K2 := Lib.hid (K2.out.turn tt)
  clear tt oo
  go_wp2_with fail
  have C := oadd (⟨[97], [97], 1, 10, 0⟩ : Ru) X.out (by decide)
  rw [show addE [(⟨[97], [98], 1, 10, 0⟩ : Ru), (⟨[97], [99], 2, 5, 4⟩ : Ru)] (⟨[97], [97], 1, 10, 0⟩ : Ru) = 1 from by decide +kernel, show addU [(⟨[97], [98], 1, 10, 0⟩ : Ru), (⟨[97], [99], 2, 5, 4⟩ : Ru)] (⟨[97], [97], 1, 10, 0⟩ : Ru) = [(⟨[97], [98], 1, 10, 0⟩ : Ru), (⟨[97], [99], 2, 5, 4⟩ : Ru)] from by decide +kernel] at C
  replace C := Lib.hid C
  refine (C.out).mono ?_
  rintro e W7 ⟨rfl, F5, oo, tt⟩
  clear C
  replace X := Lib.hid oo
  replace K2 := Lib.hid (K2.out.turn tt)
  clear tt oo
  go_wp2_with fail
  have C := oadd (⟨[100], [97], 1, 10, 0⟩ : Ru) X.out (by decide)
  rw [show addE [(⟨[97], [98], 1, 10, 0⟩ : Ru), (⟨[97], [99], 2, 5, 4⟩ : Ru)] (⟨[100], [97], 1, 10, 0⟩ : Ru) = 10 from by decide +kernel, show addU [(⟨[97], [98], 1, 10, 0⟩ : Ru), (⟨[97], [99], 2, 5, 4⟩ : Ru)] (⟨[100], [97], 1, 10, 0⟩ : Ru) = [(⟨[97], [98], 1, 10, 0⟩ : Ru), (⟨[97], [99], 2, 5, 4⟩ : Ru)] from by decide +kernel] at C
  replace C := Lib.hid C
  refine (C.out).mono ?_
  rintro e W8 ⟨rfl, F6, oo, tt⟩
  clear C
  replace X := Lib.hid oo
  replace K2 := Lib.hid (K2.out.turn tt)
  clear tt oo
  go_wp2_with fail
  have C := oof [97] X.out (by decide)
  rw [show ofL [(⟨[97], [98], 1, 10, 0⟩ : Ru), (⟨[97], [99], 2, 5, 4⟩ : Ru)] [97] = [(⟨[97], [98], 1, 10, 0⟩ : Ru), (⟨[97], [99], 2, 5, 4⟩ : Ru)] from by decide +kernel] at C
  replace C := Lib.hid C
  refine (C.out).mono ?_
  rintro e W9 ⟨v9, rfl, rr, br⟩
  have R9 := Lib.hid (RowO.new X.out.gr rr)
  clear C rr
  replace X := Lib.hid (X.out.keep br)
  replace K2 := Lib.hid (K2.out.keep br)
  clear br
  go_wp2_with fail
  have C := ointo [98] X.out
  rw [show intoL [(⟨[97], [98], 1, 10, 0⟩ : Ru), (⟨[97], [99], 2, 5, 4⟩ : Ru)] [98] = some (⟨[97], [98], 1, 10, 0⟩ : Ru) from by decide +kernel] at C
  replace C := Lib.hid C
  refine (C.out).mono ?_
  rintro e W10 ⟨rfl, br⟩
  clear C
  replace X := Lib.hid (X.out.keep br)
  replace K2 := Lib.hid (K2.out.keep br)
  replace R9 := Lib.hid (R9.out.keep br)
  clear br
  unfold ruV
  go_wp2_with fail
  have br := (Below.refl W10.heap.size W10).alloc (Nat.le_refl _) (.cells #[.string (bs [97]), .string (bs [98]), .int .i64 1, .int .i64 10, .int .i64 0] 31)
  have bn : BoxO 31 F6 (W10.alloc (.cells #[.string (bs [97]), .string (bs [98]), .int .i64 1, .int .i64 10, .int .i64 0] 31)) W10.heap.size (⟨[97], [98], 1, 10, 0⟩ : Ru) := BoxO.new 31 X.out.gr (⟨[97], [98], 1, 10, 0⟩ : Ru)
  have K10 := Lib.hid bn
  replace X := Lib.hid (X.out.keep br)
  replace K2 := Lib.hid (K2.out.keep br)
  replace R9 := Lib.hid (R9.out.keep br)
  clear br bn
  generalize W10.alloc (.cells #[.string (bs [97]), .string (bs [98]), .int .i64 1, .int .i64 10, .int .i64 0] 31) = W11 at *
  generalize W10.heap.size = b_K10 at *
  have C := odrop [97] [98] X.out (by decide)
  rw [show dropR [(⟨[97], [98], 1, 10, 0⟩ : Ru), (⟨[97], [99], 2, 5, 4⟩ : Ru)] [97] [98] = (⟨[97], [98], 1, 10, 0⟩ : Ru) from by decide +kernel, show dropE [(⟨[97], [98], 1, 10, 0⟩ : Ru), (⟨[97], [99], 2, 5, 4⟩ : Ru)] [97] [98] = 0 from by decide +kernel, show dropU [(⟨[97], [98], 1, 10, 0⟩ : Ru), (⟨[97], [99], 2, 5, 4⟩ : Ru)] [97] [98] = [(⟨[97], [99], 2, 5, 4⟩ : Ru)] from by decide +kernel] at C
  replace C := Lib.hid C
  refine (C.out).mono ?_
  rintro e W12 ⟨rfl, F7, oo, tt⟩
  clear C
  replace X := Lib.hid oo
  replace K2 := Lib.hid (K2.out.turn tt)
  replace R9 := Lib.hid (R9.out.turn tt)
  replace K10 := Lib.hid (K10.out.turn tt)
  clear tt oo
  unfold ruV
  go_wp2_with fail
  have br := (Below.refl W12.heap.size W12).alloc (Nat.le_refl _) (.cells #[.string (bs [97]), .string (bs [98]), .int .i64 1, .int .i64 10, .int .i64 0] 31)
  have bn : BoxO 31 F7 (W12.alloc (.cells #[.string (bs [97]), .string (bs [98]), .int .i64 1, .int .i64 10, .int .i64 0] 31)) W12.heap.size (⟨[97], [98], 1, 10, 0⟩ : Ru) := BoxO.new 31 X.out.gr (⟨[97], [98], 1, 10, 0⟩ : Ru)
  have K12 := Lib.hid bn
  replace X := Lib.hid (X.out.keep br)
  replace K2 := Lib.hid (K2.out.keep br)
  replace R9 := Lib.hid (R9.out.keep br)
  replace K10 := Lib.hid (K10.out.keep br)
  clear br bn
  generalize W12.alloc (.cells #[.string (bs [97]), .string (bs [98]), .int .i64 1, .int .i64 10, .int .i64 0] 31) = W13 at *
  generalize W12.heap.size = b_K12 at *
  have C := odrop [97] [98] X.out (by decide)
  rw [show dropR [(⟨[97], [99], 2, 5, 4⟩ : Ru)] [97] [98] = zeroU from by decide +kernel, show dropE [(⟨[97], [99], 2, 5, 4⟩ : Ru)] [97] [98] = 5 from by decide +kernel, show dropU [(⟨[97], [99], 2, 5, 4⟩ : Ru)] [97] [98] = [(⟨[97], [99], 2, 5, 4⟩ : Ru)] from by decide +kernel] at C
  replace C := Lib.hid C
  refine (C.out).mono ?_
  rintro e W14 ⟨rfl, F8, oo, tt⟩
  clear C
  replace X := Lib.hid oo
  replace K2 := Lib.hid (K2.out.turn tt)
  replace R9 := Lib.hid (R9.out.turn tt)
  replace K10 := Lib.hid (K10.out.turn tt)
  replace K12 := Lib.hid (K12.out.turn tt)
  clear tt oo
  unfold ruV
  go_wp2_with fail
  have br := (Below.refl W14.heap.size W14).alloc (Nat.le_refl _) (.cells #[.string (bs zeroU.src), .string (bs zeroU.dst), .int .i64 zeroU.kind, .int .i64 zeroU.size, .int .i64 zeroU.align] 31)
  have bn : BoxO 31 F8 (W14.alloc (.cells #[.string (bs zeroU.src), .string (bs zeroU.dst), .int .i64 zeroU.kind, .int .i64 zeroU.size, .int .i64 zeroU.align] 31)) W14.heap.size (⟨[], [], 0, 0, 0⟩ : Ru) := BoxO.new 31 X.out.gr (⟨[], [], 0, 0, 0⟩ : Ru)
  have K14 := Lib.hid bn
  replace X := Lib.hid (X.out.keep br)
  replace K2 := Lib.hid (K2.out.keep br)
  replace R9 := Lib.hid (R9.out.keep br)
  replace K10 := Lib.hid (K10.out.keep br)
  replace K12 := Lib.hid (K12.out.keep br)
  clear br bn
  generalize W14.alloc (.cells #[.string (bs zeroU.src), .string (bs zeroU.dst), .int .i64 zeroU.kind, .int .i64 zeroU.size, .int .i64 zeroU.align] 31) = W15 at *
  generalize W14.heap.size = b_K14 at *
  clear K14
  have C := ogone [99] X.out (by decide)
  rw [show goneN [(⟨[97], [99], 2, 5, 4⟩ : Ru)] [99] = 1 from by decide +kernel, show goneL [(⟨[97], [99], 2, 5, 4⟩ : Ru)] [99] = [] from by decide +kernel] at C
  replace C := Lib.hid C
  refine (C.out).mono ?_
  rintro e W16 ⟨rfl, F9, oo, tt⟩
  clear C
  replace X := Lib.hid oo
  replace K2 := Lib.hid (K2.out.turn tt)
  replace R9 := Lib.hid (R9.out.turn tt)
  replace K10 := Lib.hid (K10.out.turn tt)
  replace K12 := Lib.hid (K12.out.turn tt)
  clear tt oo
  obtain ⟨a9, cap9, e9, hr9, _⟩ := R9.out.row.shape
  replace e9 : v9 = .slice a9 2 cap9 := e9
  subst e9
  obtain ⟨b9, o9, e9, hb9, p0, p1, p2, p3, p4⟩ := hr9.at_ 0 (by decide)
  subst e9
  replace p0 : W16.cell? ⟨b9, o9 + 0 * 5, none⟩ = some (.string ⟨#[97]⟩) := p0
  replace p1 : W16.cell? ⟨b9, o9 + 0 * 5 + 1, none⟩ = some (.string ⟨#[98]⟩) := p1
  replace p2 : W16.cell? ⟨b9, o9 + 0 * 5 + 2, none⟩ = some (.int .i64 1) := p2
  replace p3 : W16.cell? ⟨b9, o9 + 0 * 5 + 3, none⟩ = some (.int .i64 10) := p3
  replace p4 : W16.cell? ⟨b9, o9 + 0 * 5 + 4, none⟩ = some (.int .i64 0) := p4
  rw [Nat.zero_mul, Nat.add_zero] at p0 p1 p2 p3 p4
  have K2_0 : W16.cell? ⟨b_K2, 0, none⟩ = some (.string ⟨#[97]⟩) := K2.out.box.x0
  have K2_1 : W16.cell? ⟨b_K2, 1, none⟩ = some (.string ⟨#[98]⟩) := K2.out.box.x1
  have K2_2 : W16.cell? ⟨b_K2, 2, none⟩ = some (.int .i64 1) := K2.out.box.x2
  have K2_3 : W16.cell? ⟨b_K2, 3, none⟩ = some (.int .i64 10) := K2.out.box.x3
  have K2_4 : W16.cell? ⟨b_K2, 4, none⟩ = some (.int .i64 0) := K2.out.box.x4
  have K10_0 : W16.cell? ⟨b_K10, 0, none⟩ = some (.string ⟨#[97]⟩) := K10.out.box.x0
  have K10_1 : W16.cell? ⟨b_K10, 1, none⟩ = some (.string ⟨#[98]⟩) := K10.out.box.x1
  have K10_2 : W16.cell? ⟨b_K10, 2, none⟩ = some (.int .i64 1) := K10.out.box.x2
  have K10_3 : W16.cell? ⟨b_K10, 3, none⟩ = some (.int .i64 10) := K10.out.box.x3
  have K10_4 : W16.cell? ⟨b_K10, 4, none⟩ = some (.int .i64 0) := K10.out.box.x4
  have K12_0 : W16.cell? ⟨b_K12, 0, none⟩ = some (.string ⟨#[97]⟩) := K12.out.box.x0
  have K12_1 : W16.cell? ⟨b_K12, 1, none⟩ = some (.string ⟨#[98]⟩) := K12.out.box.x1
  have K12_2 : W16.cell? ⟨b_K12, 2, none⟩ = some (.int .i64 1) := K12.out.box.x2
  have K12_3 : W16.cell? ⟨b_K12, 3, none⟩ = some (.int .i64 10) := K12.out.box.x3
  have K12_4 : W16.cell? ⟨b_K12, 4, none⟩ = some (.int .i64 0) := K12.out.box.x4
  have heq : ∀ W, (binOp .eql 31 (.agg #[.string ⟨#[97]⟩, .string ⟨#[98]⟩, .int .i64 1, .int .i64 10, .int .i64 0]) (.agg #[.string ⟨#[97]⟩, .string ⟨#[98]⟩, .int .i64 1, .int .i64 10, .int .i64 0])).run Try.prog W = .ok (.bool true) W := fun W => run_eq_gu W (⟨[97], [98], 1, 10, 0⟩ : Ru) (⟨[97], [98], 1, 10, 0⟩ : Ru)
  have HU : Hid (U5 W16 b9 o9 (⟨[97], [98], 1, 10, 0⟩ : Ru)) := Lib.hid ⟨p0, p1, p2, p3, p4⟩
  have br := (Below.refl W16.heap.size W16).drew
  have XD := Lib.hid (X.out.keep br)
  have K2D := Lib.hid (K2.out.keep br)
  have K10D := Lib.hid (K10.out.keep br)
  have K12D := Lib.hid (K12.out.keep br)
  have HUD := Lib.hid (HU.out.tu (F := fun _ => False) (.of br) id)
  have E0 := Lib.hid (twenty K2D.out.box K10D.out.box K12D.out.box HUD.out)
  have HR1 := Lib.hid (fun W => right_ab W)
  have HR2 := Lib.hid (fun W => right_0 W)
  clear R9 hr9 br
  go_wp2_with fail
  simp only [List.append_eq, List.cons_append, List.nil_append]
  go_region_held3 (fun w' => w'.cell? ⟨b_K2, 0, none⟩ = some (.string ⟨#[97]⟩) ∧ w'.cell? ⟨b_K2, 1, none⟩ = some (.string ⟨#[98]⟩) ∧ w'.cell? ⟨b_K2, 2, none⟩ = some (.int .i64 1) ∧ w'.cell? ⟨b_K2, 3, none⟩ = some (.int .i64 10) ∧ w'.cell? ⟨b_K2, 4, none⟩ = some (.int .i64 0) ∧ w'.cell? ⟨b_K10, 0, none⟩ = some (.string ⟨#[97]⟩) ∧ w'.cell? ⟨b_K10, 1, none⟩ = some (.string ⟨#[98]⟩) ∧ w'.cell? ⟨b_K10, 2, none⟩ = some (.int .i64 1) ∧ w'.cell? ⟨b_K10, 3, none⟩ = some (.int .i64 10) ∧ w'.cell? ⟨b_K10, 4, none⟩ = some (.int .i64 0) ∧ w'.cell? ⟨b_K12, 0, none⟩ = some (.string ⟨#[97]⟩) ∧ w'.cell? ⟨b_K12, 1, none⟩ = some (.string ⟨#[98]⟩) ∧ w'.cell? ⟨b_K12, 2, none⟩ = some (.int .i64 1) ∧ w'.cell? ⟨b_K12, 3, none⟩ = some (.int .i64 10) ∧ w'.cell? ⟨b_K12, 4, none⟩ = some (.int .i64 0) ∧ w'.cell? ⟨b9, o9, none⟩ = some (.string ⟨#[97]⟩) ∧ w'.cell? ⟨b9, o9 + 1, none⟩ = some (.string ⟨#[98]⟩) ∧ w'.cell? ⟨b9, o9 + 2, none⟩ = some (.int .i64 1) ∧ w'.cell? ⟨b9, o9 + 3, none⟩ = some (.int .i64 10) ∧ w'.cell? ⟨b9, o9 + 4, none⟩ = some (.int .i64 0))
    (first | exact E0.out | exact E1.out | exact E2.out | exact E3.out | exact E4.out | go_keep)
    (first
      | (go_at_call 24
         (with_reducible refine (oall XD.out (by decide)).mono ?_)
         rintro e V1 ⟨v1, rfl, rr, br⟩
         obtain ⟨a1, cap1, e1, _, _⟩ := rr.shape; replace e1 : v1 = .slice a1 0 cap1 := e1; subst e1
         have X1 := Lib.hid (XD.out.keep br)
         have K21 := Lib.hid (K2D.out.keep br)
         have K101 := Lib.hid (K10D.out.keep br)
         have K121 := Lib.hid (K12D.out.keep br)
         have HU1 := Lib.hid (HUD.out.tu (F := fun _ => False) (.of br) id)
         have E1 := Lib.hid (twenty K21.out.box K101.out.box K121.out.box HU1.out)
         clear br rr)
      | (go_at_call 27
         (with_reducible refine (HR1.out V1).mono ?_)
         rintro e V2 ⟨rfl, br⟩
         have X2 := Lib.hid (X1.out.keep br)
         have K22 := Lib.hid (K21.out.keep br)
         have K102 := Lib.hid (K101.out.keep br)
         have K122 := Lib.hid (K121.out.keep br)
         have HU2 := Lib.hid (HU1.out.tu (F := fun _ => False) (.of br) id)
         have E2 := Lib.hid (twenty K22.out.box K102.out.box K122.out.box HU2.out)
         clear br)
      | (go_at_call 27
         (with_reducible refine (HR2.out V2).mono ?_)
         rintro e V3 ⟨rfl, br⟩
         have X3 := Lib.hid (X2.out.keep br)
         have K23 := Lib.hid (K22.out.keep br)
         have K103 := Lib.hid (K102.out.keep br)
         have K123 := Lib.hid (K122.out.keep br)
         have HU3 := Lib.hid (HU2.out.tu (F := fun _ => False) (.of br) id)
         have E3 := Lib.hid (twenty K23.out.box K103.out.box K123.out.box HU3.out)
         clear br)
      | (go_at_call 19
         (with_reducible refine (gcopy_ok V3 x bi bf F9 [] X3.out.gr (by decide)).mono ?_)
         rintro e V4 ⟨y, ci, cf, G, rfl, hg, br, hy, hG⟩
         have X4 := Lib.hid (X3.out.keep br)
         have K24 := Lib.hid (K23.out.keep br)
         have K104 := Lib.hid (K103.out.keep br)
         have K124 := Lib.hid (K123.out.keep br)
         have HU4 := Lib.hid (HU3.out.tu (F := fun _ => False) (.of br) id)
         have E4 := Lib.hid (twenty K24.out.box K104.out.box K124.out.box HU4.out)
         clear br)
      | fail)
  go_wp2
  go_ret
  exact ⟨rfl, X4.out.bel⟩

end Go.Proofs.Ytlogkhifgkkjeaa
