/-
  The statement 'GraphNil' of layer 11: a graph that is not there has no rules.
  No condition on the arguments.
-/
import Derived.Test.YtlogkhifgkkjeaaGKnown
import Derived.Test.YtlogkhifgkkjeaaGArgs
import Derived.Test.YtlogkhifgkkjeaaRows
import Derived.ChangeOld
namespace Go.Proofs.Ytlogkhifgkkjeaa
namespace graphNil
open Go.ChangeShapes Go.WideShapes Go.ChangeAt Go.RowKit
open Go.ChangeMaps (open_string shut_string)
set_option linter.unusedVariables false
set_option linter.unusedSimpArgs false

theorem own : ownKnob Try.prog.godebug = none := by kernel_rfl

set_option maxRecDepth 100000 in
set_option maxHeartbeats 4000000 in
theorem walk (r : Ru) (w : World) (_ : True) :
    Calls Try.prog 6 #[ruV r] w fun e w' => e = .returned (.bool true) ∧ Below w.heap.size w w' := by
  obtain ⟨s, d, k, n, a⟩ := r
  unfold ruV
  show Calls Try.prog 6 #[.agg #[.string (bs s), .string (bs d), .int .i64 k, .int .i64 n, .int .i64 a]] w _
  have B1 := Lib.hid ((Below.refl w.heap.size w).alloc (Nat.le_refl _) (.cells #[.string (bs s), .string (bs d), .int .i64 k, .int .i64 n, .int .i64 a] 31))
  have X1 := Lib.hid (BoxU.new 31 w ⟨s, d, k, n, a⟩)
  have x1 := X1.out.x1
  simp only at x1
  go_enter Try.func6, Try.ntmps6
  go_wp2_with fail
  refine (ginto_nil _ (bs d)).mono ?_
  rintro e W2 ⟨rfl, b2⟩
  have B2 := Lib.hid (B1.out.trans (b2.mono B1.out.size))
  have X2 := Lib.hid (X1.out.keep b2)
  clear b2 X1 x1
  unfold ruV
  have b3 := (Below.refl W2.heap.size W2).alloc (Nat.le_refl _) (.cells #[.string (bs zeroU.src), .string (bs zeroU.dst), .int .i64 zeroU.kind, .int .i64 zeroU.size, .int .i64 zeroU.align] 31)
  have B3 := Lib.hid (B2.out.trans (b3.mono B2.out.size))
  have X3 := Lib.hid (X2.out.keep b3)
  have x0 := X3.out.x0
  have x1 := X3.out.x1
  simp only at x0 x1
  clear b3
  go_wp2_with fail
  clear x0 x1
  generalize W2.alloc (.cells #[.string (bs zeroU.src), .string (bs zeroU.dst), .int .i64 zeroU.kind, .int .i64 zeroU.size, .int .i64 zeroU.align] 31) = W3 at *
  refine (gdrop_nil W3 (bs s) (bs d)).mono ?_
  rintro e W4 ⟨rfl, b4⟩
  have B4 := Lib.hid (B3.out.trans (b4.mono B3.out.size))
  have X4 := Lib.hid (X3.out.keep b4)
  clear b4 X3
  unfold ruV
  have b5 := (Below.refl W4.heap.size W4).alloc (Nat.le_refl _) (.cells #[.string (bs zeroU.src), .string (bs zeroU.dst), .int .i64 zeroU.kind, .int .i64 zeroU.size, .int .i64 zeroU.align] 31)
  have B5 := Lib.hid (B4.out.trans (b5.mono B4.out.size))
  have X5 := Lib.hid (X4.out.keep b5)
  have x0 := X5.out.x0
  have x1 := X5.out.x1
  have x2 := X5.out.x2
  have x3 := X5.out.x3
  have x4 := X5.out.x4
  simp only at x0 x1 x2 x3 x4
  clear b5
  go_wp2_with fail
  clear x0 x1 x2 x3 x4
  generalize W4.alloc (.cells #[.string (bs zeroU.src), .string (bs zeroU.dst), .int .i64 zeroU.kind, .int .i64 zeroU.size, .int .i64 zeroU.align] 31) = W5 at *
  refine (gadd_nil W5 ⟨s, d, k, n, a⟩).mono ?_
  rintro e W6 ⟨rfl, b6⟩
  have B6 := Lib.hid (B5.out.trans (b6.mono B5.out.size))
  have X6 := Lib.hid (X5.out.keep b6)
  have x0 := X6.out.x0
  simp only at x0
  clear b6 X5
  go_wp2_with fail
  refine (gof_nil W6 (bs s)).mono ?_
  rintro e w' ⟨rfl, rfl⟩
  go_wp2_with fail
  refine (gone_nil _ (bs s)).mono ?_
  rintro e w' ⟨rfl, rfl⟩
  go_wp2_with fail
  refine (gall_nil _).mono ?_
  rintro e w' ⟨rfl, rfl⟩
  go_wp2_with fail
  refine (gcopy_nil _).mono ?_
  rintro e w' ⟨rfl, rfl⟩
  go_wp2_with fail
  refine (known11_any _).mono ?_
  rintro e W7 ⟨rfl, b7⟩
  go_wp2
  go_ret
  exact ⟨rfl, B6.out.trans (b7.mono B6.out.size)⟩

set_option maxRecDepth 100000 in
theorem lifted (os : Os) (started : os.Started) (H : Type) (enc : TypeId × Value → H) :
    ReturnsInHanded {} Try.checked os 6 .any (Rows.graphNilSpec.pre6 enc Try.prog Try.f6 Rows.graphNilRow.domain false) (Rows.graphNilSpec.post enc Try.prog Try.f6 false true false false) := by
  refine returnsInHanded_of_change (C := Try.checked) own started (by kernel_rfl) Try.func6
    (ChangeSpec.witness6 (enc := enc) (C := Try.checked) false ⟨#[], #[.agg #[.string ByteArray.empty, .string ByteArray.empty, .int .i64 0, .int .i64 0, .int .i64 0]], []⟩ 8 (by kernel_rfl) (by kernel_rfl) (by kernel_rfl) (by kernel_rfl)) ?_
  intro W base args ds gs before hval0 hW hcnd _
  have hval : ∀ (j : Nat) t v, Try.f6.params[j]? = some t → args[j]? = some v → Value.okWide Try.prog W .any base t v := hval0
  have hW' := hW
  obtain ⟨p, q, hA0, hV, rfl, hfz, hnd⟩ := hW
  have hA : DataW.TrodAll enc Try.prog W 0 (fun _ => true) true Try.f6.params.toList args.toList ds p := hA0
  rw [Try.params6] at hA hval
  obtain ⟨v0, vs0, d0, ds0, p0, q0, hargs, rfl, rfl, h0, r0⟩ := trodAll_cons hA
  obtain ⟨rfl, rfl, rfl⟩ := trodAll_nil r0
  obtain rfl : args = #[v0] := by cases args; simp_all
  obtain ⟨rfl, rfl⟩ := trodVars_none hV
  have k0 := h0
  have lt0 : ∀ x ∈ p0, x.block < W.heap.size := by obtain ⟨m, hm⟩ := k0; exact DataW.trod_lt m _ _ _ hm
  obtain ⟨a0, rfl, w0⟩ := open_ru11 (hval 0 31 v0 rfl rfl) h0
  clear hA0 hval0
  refine (walk a0 W w0).mono fun e W' ⟨he, bel⟩ => ?_
  subst he
  exact ⟨_, rfl, _, _, _, [], _, [], hW', trodAll_mk1 (shut_bool Try.underlying4 _), (trodAll_cons_mk (Below.trod laidOut (by kernel_rfl) (of_decide_eq_true (by kernel_rfl)) k0 bel lt0) trodAll_mk0), rfl, bel.frame _, fun h => by cases h⟩

theorem over : Rows.graphNilRow.holds Try.pinned (OpenSpec.ofChange Rows.graphNilSpec) :=
  OpenClaim.holds_of_wide 6 Try.f6 rfl rfl rfl rfl rfl rfl rfl ⟨rfl, rfl, rfl, rfl, rfl⟩ rfl rfl rfl rfl rfl (by kernel_rfl) Try.func6 (by kernel_rfl)
    (of_decide_eq_true (by kernel_rfl)) (by unfold Func.isWrapper; first | (rw [if_pos (by decide +kernel)]; kernel_rfl) | (rw [if_neg (by decide +kernel)]; exact ⟨rfl, rfl⟩))
    (fun os started H enc _ => lifted os started H enc)

theorem proved : Rows.GraphNilSaid := over
end graphNil
theorem graphNil_holds : Rows.GraphNilSaid := graphNil.proved
#print axioms graphNil_holds
end Go.Proofs.Ytlogkhifgkkjeaa
