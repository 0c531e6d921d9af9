/-
  Contract of the graph's Add.
-/
import Derived.Test.YtlogkhifgkkjeaaGPut
namespace Go.Proofs.Ytlogkhifgkkjeaa
open Go.RowKit
set_option linter.unusedVariables false
set_option linter.unusedSimpArgs false

theorem addE_is (L : List Ru) (r : Ru) : addE L r = if decide (rightU r) = false then 1 else if (intoL L r.dst).isSome = true then 6 else if decide (ofL L r.dst ≠ []) = true then 10 else if (intoL L r.src).isSome = true then 10 else 0 := by
  unfold addE
  by_cases h1 : rightU r <;> by_cases h2 : (intoL L r.dst).isSome = true <;> by_cases h3 : ofL L r.dst = [] <;> by_cases h4 : (intoL L r.src).isSome = true <;> simp [h1, h2, h3, h4]
theorem addU_no {L : List Ru} {r : Ru} (h : addE L r ≠ 0) : addU L r = L := if_neg h
theorem addU_yes {L : List Ru} {r : Ru} (h : addE L r = 0) : addU L r = insU r L := if_pos h
theorem gright_x (s d : Tx) (k n a : Int) (w : World) : Calls Try.prog 27 #[.agg #[.string (bs s), .string (bs d), .int .i64 k, .int .i64 n, .int .i64 a]] w fun e w' => e = .returned (.bool (decide (rightU ⟨s, d, k, n, a⟩))) ∧ Below w.heap.size w w' := gright_any ⟨s, d, k, n, a⟩ w
theorem gput_x (w : World) (x bi bf : Nat) (F : Nat → Prop) (L : List Ru) (s d : Tx) (k n a : Int) (h : GrAt w x bi bf F L) (hL : L.length ≤ 900) (hr : addE L ⟨s, d, k, n, a⟩ = 0) :
    Calls Try.prog 32 #[.pointer (some ⟨x, 0, none⟩), .agg #[.string (bs s), .string (bs d), .int .i64 k, .int .i64 n, .int .i64 a]] w fun e w' => e = .returned (.tuple #[]) ∧ ∃ F', GrTurn w w' x bi bf F F' (insU ⟨s, d, k, n, a⟩ L) := gput_ok w x bi bf F L ⟨s, d, k, n, a⟩ h hL hr

def AddP (w : World) (x bi bf : Nat) (F : Nat → Prop) (L : List Ru) (r : Ru) (e : Ending) (w' : World) : Prop := e = .returned (.int .i64 (addE L r)) ∧ ∃ F', GrTurn w w' x bi bf F F' (addU L r)
set_option maxRecDepth 100000 in
set_option maxHeartbeats 4000000 in
theorem gadd_ok (w : World) (x bi bf : Nat) (F : Nat → Prop) (L : List Ru) (r : Ru) (h : GrAt w x bi bf F L) (hL : L.length ≤ 900) :
    Calls Try.prog 12 #[.pointer (some ⟨x, 0, none⟩), ruV r] w (AddP w x bi bf F L r) := by
  obtain ⟨s, d, k, n, a⟩ := r
  unfold ruV
  show Calls Try.prog 12 #[.pointer (some ⟨x, 0, none⟩), .agg #[.string (bs s), .string (bs d), .int .i64 k, .int .i64 n, .int .i64 a]] w _
  have HE := Lib.hid (addE_is L ⟨s, d, k, n, a⟩)
  have B1 := (Below.refl w.heap.size w).alloc (Nat.le_refl _) (.cells #[.string (bs s), .string (bs d), .int .i64 k, .int .i64 n, .int .i64 a] 31)
  have X1 := BoxU.new 31 w ⟨s, d, k, n, a⟩
  have HC := Lib.hid (fun W (hW : GrCell W x bi bf) => gisNone_no W x bi bf hW)
  have HR := Lib.hid (fun W => gright_x s d k n a W)
  have HM := Lib.hid (fun W (h1 : GrCell W x bi bf) (h2 : IntoAt W bi (intoL L)) => isMade_ok W x bi bf (intoL L) d h1 h2)
  have HM2 := Lib.hid (fun W (h1 : GrCell W x bi bf) (h2 : IntoAt W bi (intoL L)) => isMade_ok W x bi bf (intoL L) s h1 h2)
  have HS := Lib.hid (fun W (h1 : GrCell W x bi bf) (h2 : FromAt W bf F (ofL L)) => isSource_ok W x bi bf F (ofL L) d h1 h2)
  have HP := Lib.hid (fun W (hW : GrAt W x bi bf F L) (h0 : addE L ⟨s, d, k, n, a⟩ = 0) => gput_x W x bi bf F L s d k n a hW hL h0)
  have HG := Lib.hid h
  have G1 := Lib.hid (h.keep B1)
  simp only at HE
  generalize hb1 : decide (rightU ⟨s, d, k, n, a⟩) = b1 at *
  generalize hb2 : (intoL L d).isSome = b2 at *
  generalize hb3 : decide (ofL L d ≠ []) = b3 at *
  generalize hb4 : (intoL L s).isSome = b4 at *
  clear hb1 hb2 hb3 hb4 h hL
  go_enter Try.func12, Try.ntmps12
  go_wp2_with fail
  generalize hW1 : w.alloc (.cells #[.string (bs s), .string (bs d), .int .i64 k, .int .i64 n, .int .i64 a] 31) = W1 at *
  have HB1 := Lib.hid B1
  have HX1 := Lib.hid X1
  clear hW1 B1 X1
  refine (HC.out W1 G1.out.cell).mono ?_
  rintro e w' ⟨rfl, rfl⟩
  have x0 := HX1.out.x0
  have x1 := HX1.out.x1
  have x2 := HX1.out.x2
  have x3 := HX1.out.x3
  have x4 := HX1.out.x4
  simp only at x0 x1 x2 x3 x4
  generalize hB0 : w.heap.size = B0 at *
  go_wp2_with fail
  refine (HR.out W1).mono ?_
  rintro e W2 ⟨rfl, b2'⟩
  have HB2 := Lib.hid (HB1.out.trans (b2'.mono (by have := HB1.out.size; omega)))
  have G2 := Lib.hid (G1.out.keep b2')
  have HX2 := Lib.hid (HX1.out.keep b2')
  clear b2' HX1 G1 HB1 x0 x1 x2 x3 x4
  have x1 := HX2.out.x1
  simp only at x1
  cases b1
  · have E := Lib.hid (show addE L ⟨s, d, k, n, a⟩ = 1 from HE.out)
    go_wp2
    go_ret
    unfold AddP; rw [E.out]; exact ⟨rfl, F, by rw [addU_no (by rw [E.out]; decide)]; exact ⟨G2.out, fun _ f => .inl f, .of (by rw [hB0]; exact HB2.out)⟩⟩
  go_wp2_with fail
  refine (HM.out W2 G2.out.cell G2.out.into).mono ?_
  rintro e W3 ⟨rfl, b3'⟩
  have HB3 := Lib.hid (HB2.out.trans (b3'.mono (by have := HB2.out.size; omega)))
  have G3 := Lib.hid (G2.out.keep b3')
  have HX3 := Lib.hid (HX2.out.keep b3')
  clear b3' HX2 G2 HB2 x1
  have x0 := HX3.out.x0
  have x1 := HX3.out.x1
  have x2 := HX3.out.x2
  have x3 := HX3.out.x3
  have x4 := HX3.out.x4
  simp only at x0 x1 x2 x3 x4
  cases b2
  case true =>
    have E := Lib.hid (show addE L ⟨s, d, k, n, a⟩ = 6 from HE.out)
    go_wp2
    go_ret
    unfold AddP; rw [E.out]; exact ⟨rfl, F, by rw [addU_no (by rw [E.out]; decide)]; exact ⟨G3.out, fun _ f => .inl f, .of (by rw [hB0]; exact HB3.out)⟩⟩
  go_wp2_with fail
  refine (HS.out W3 G3.out.cell G3.out.from_).mono ?_
  rintro e w' ⟨rfl, rfl⟩
  cases b3
  case true =>
    have E := Lib.hid (show addE L ⟨s, d, k, n, a⟩ = 10 from HE.out)
    go_wp2
    go_ret
    unfold AddP; rw [E.out]; exact ⟨rfl, F, by rw [addU_no (by rw [E.out]; decide)]; exact ⟨G3.out, fun _ f => .inl f, .of (by rw [hB0]; exact HB3.out)⟩⟩
  go_wp2_with fail
  refine (HM2.out W3 G3.out.cell G3.out.into).mono ?_
  rintro e W4 ⟨rfl, b4'⟩
  have HB4 := Lib.hid (HB3.out.trans (b4'.mono (by have := HB3.out.size; omega)))
  have G4 := Lib.hid (G3.out.keep b4')
  have HX4 := Lib.hid (HX3.out.keep b4')
  clear b4' HX3 G3 HB3 x0 x1 x2 x3 x4
  have x0 := HX4.out.x0
  have x1 := HX4.out.x1
  have x2 := HX4.out.x2
  have x3 := HX4.out.x3
  have x4 := HX4.out.x4
  simp only at x0 x1 x2 x3 x4
  cases b4
  case true =>
    have E := Lib.hid (show addE L ⟨s, d, k, n, a⟩ = 10 from HE.out)
    go_wp2
    go_ret
    unfold AddP; rw [E.out]; exact ⟨rfl, F, by rw [addU_no (by rw [E.out]; decide)]; exact ⟨G4.out, fun _ f => .inl f, .of (by rw [hB0]; exact HB4.out)⟩⟩
  have E := Lib.hid (show addE L ⟨s, d, k, n, a⟩ = 0 from HE.out)
  go_wp2_with fail
  refine (HP.out W4 G4.out E.out).mono ?_
  rintro e W5 ⟨rfl, F', T5⟩
  have HT := Lib.hid (T5.pre (by rw [hB0]; exact HB4.out))
  clear x0 x1 x2 x3 x4 T5
  go_wp2
  go_ret
  unfold AddP; rw [E.out]; exact ⟨rfl, F', by rw [addU_yes E.out]; exact HT.out⟩

theorem gadd_nil (w : World) (r : Ru) : Calls Try.prog 12 #[.pointer none, ruV r] w fun e w' => e = .returned (.int .i64 11) ∧ Below w.heap.size w w' := by
  obtain ⟨s, d, k, n, a⟩ := r
  unfold ruV
  show Calls Try.prog 12 #[.pointer none, .agg #[.string (bs s), .string (bs d), .int .i64 k, .int .i64 n, .int .i64 a]] w _
  have HB := Lib.hid ((Below.refl w.heap.size w).alloc (Nat.le_refl _) (.cells #[.string (bs s), .string (bs d), .int .i64 k, .int .i64 n, .int .i64 a] 31))
  go_enter Try.func12, Try.ntmps12
  go_wp2_with fail
  refine (gisNone_nil _).mono ?_
  rintro e w' ⟨rfl, rfl⟩
  go_wp2
  go_ret
  exact ⟨rfl, HB.out⟩

end Go.Proofs.Ytlogkhifgkkjeaa
