/-
  The statement 'RowsFills' of layer 7: any buckets with the empty ones among them, or what is wrong, is as the document says.
  No condition on the arguments.
-/
import Derived.Test.YtpahohnpcfgegaaTKnown
import Derived.Test.YtpahohnpcfgegaaTArgs
import Derived.Test.YtpahohnpcfgegaaRows
import Derived.Test.YtpahohnpcfgegaaTRFill
import Derived.ChangeOld
namespace Go.Proofs.Ytpahohnpcfgegaa
namespace rowsFills
open Go.ChangeShapes Go.WideShapes Go.ChangeAt Go.RowKit
set_option linter.unusedVariables false
set_option linter.unusedSimpArgs false

theorem own : ownKnob Try.prog.godebug = none := by kernel_rfl


set_option maxRecDepth 100000 in
set_option maxHeartbeats 4000000 in
theorem walk0 (k : Int) (x0 x1 : Int) (a : Option Addr) (len cap : Nat) (z : List (Int × Int)) (w : World) (hz : SampAt w a len cap z) :
    Calls Try.prog 4 #[.int .i64 k, .agg #[.int .i64 x0, .int .i64 x1], .slice a len cap] w fun e w' => e = .returned (.bool true) ∧ Below w.heap.size w w' := by
  have HZ := Lib.hid hz
  have B0 := (Below.refl w.heap.size w).alloc (Nat.le_refl _) (.cells #[.int .i64 x0, .int .i64 x1] 41)
  have hn0 := heap_new w (.cells #[.int .i64 x0, .int .i64 x1] 41)
  have s0 : w.heap.size < (w.alloc (.cells #[.int .i64 x0, .int .i64 x1] 41)).heap.size := by simp
  clear hz
  by_cases hl : 60 < len
  · have hl' : (60 : Int) < (len : Int) := by omega
    go_enter Try.func4, Try.ntmps4
    go_wp2_with fail
    refine (tknown_any _).mono ?_
    rintro e W2 ⟨rfl, b2⟩
    have B2 := bel_gbn B0 B0.size (gb_below b2)
    go_wp2
    go_ret
    exact ⟨rfl, B2⟩
  · have hl' : ¬ (60 : Int) < (len : Int) := by omega
    go_enter Try.func4, Try.ntmps4
    go_wp2_with fail
    generalize w.alloc (.cells #[.int .i64 x0, .int .i64 x1] 41) = W1 at *
    have H1 := Lib.hid (HZ.out.keep B0)
    generalize hq : w.heap.size = q at *
    have HQ := Lib.hid hq
    clear hq
    have HF64 := Lib.hid (fillR64 (k := k) (size := x0) (align := x1) HZ.out.2.2.2.1)
    have HFL := Lib.hid (fillR_len k x0 x1 z)
    refine (fill_any k x0 x1 a len cap z _ H1.out (by omega)).mono ?_
    rintro e W2 ⟨v2, rfl, o2, b2⟩
    obtain ⟨ad, cp, rfl, S2⟩ := row_samp HF64.out (by have := HFL.out; omega) o2
    have B2 := B0.trans (b2.mono (by omega))
    have H2 := Lib.hid (H1.out.keep b2)
    have hb := below_box b2 s0 hn0
    have c0 : W2.cell? ⟨q, 0, none⟩ = some (.int .i64 x0) := by rw [cell_of hb]; rfl
    have c1 : W2.cell? ⟨q, 1, none⟩ = some (.int .i64 x1) := by rw [cell_of hb]; rfl
    have s2 := b2.size
    clear o2 b2 hn0 hb
    go_wp2_with fail
    refine (rfill_any k x0 x1 a len cap z _ H2.out (by omega)).mono ?_
    rintro e W3 ⟨a3, n3, c3, rfl, S3, b3⟩
    have B3 := B2.trans (b3.mono (by omega))
    replace S2 := S2.keep b3
    have s3 := b3.size
    clear b3 B2 c0 c1
    go_wp2_with fail
    refine (same_any _ _ _ _ _ _ _ _ W3 S2 S3).mono ?_
    rintro e W4 ⟨rfl, dd⟩
    rw [decide_eq_true rfl]
    have B4 := B3.trans (dd.below.mono (by omega))
    have s4 := dd.below.size
    clear dd S2 S3 B3
    generalize (fillR k x0 x1 z).2 = er at *
    have te : (er == er) = true := beq_self_eq_true er
    go_wp2_with fail
    refine (tknown_any _).mono ?_
    rintro e W5 ⟨rfl, b5⟩
    have B5 := B4.trans (b5.mono (by omega))
    go_wp2
    go_ret
    exact ⟨rfl, by rw [HQ.out]; exact B5⟩

theorem walk (a0 : Int) (a1 : Int × Int) (a2 : Option Addr) (len2 cap2 : Nat) (z2 : List (Int × Int)) (w : World) (w0 : (Lit.int .i64 a0).wf = true) (w1 : in64 a1.1 ∧ in64 a1.2) (w2 : SampAt w a2 len2 cap2 z2) :
    Calls Try.prog 4 #[.int .i64 a0, .agg #[.int .i64 a1.1, .int .i64 a1.2], .slice a2 len2 cap2] w fun e w' => e = .returned (.bool true) ∧ Below w.heap.size w w' := walk0 a0 a1.1 a1.2 a2 len2 cap2 z2 w w2

set_option maxRecDepth 100000 in
theorem lifted (os : Os) (started : os.Started) (H : Type) (enc : TypeId × Value → H) :
    ReturnsInHanded {} Try.checked os 4 .any (Rows.rowsFillsSpec.pre6 enc Try.prog Try.f4 Rows.rowsFillsRow.domain false) (Rows.rowsFillsSpec.post enc Try.prog Try.f4 false true false false) := by
  refine returnsInHanded_of_change (C := Try.checked) own started (by kernel_rfl) Try.func4
    (ChangeSpec.witness6 (enc := enc) (C := Try.checked) false ⟨#[], #[.int .i64 0, .agg #[.int .i64 0, .int .i64 0], .slice none 0 0], []⟩ 8 (by kernel_rfl) (by kernel_rfl) (by kernel_rfl) (by kernel_rfl)) ?_
  intro W base args ds gs before hval0 hW hcnd _
  have hval : ∀ (j : Nat) t v, Try.f4.params[j]? = some t → args[j]? = some v → Value.okWide Try.prog W .any base t v := hval0
  have hW' := hW
  obtain ⟨p, q, hA0, hV, rfl, hfz, hnd⟩ := hW
  have hA : DataW.TrodAll enc Try.prog W 0 (fun _ => true) true Try.f4.params.toList args.toList ds p := hA0
  rw [Try.params4] at hA hval
  obtain ⟨v0, vs0, d0, ds0, p0, q0, hargs, rfl, rfl, h0, r0⟩ := trodAll_cons hA
  obtain ⟨v1, vs1, d1, ds1, p1, q1, rfl, rfl, rfl, h1, r1⟩ := trodAll_cons r0
  obtain ⟨v2, vs2, d2, ds2, p2, q2, rfl, rfl, rfl, h2, r2⟩ := trodAll_cons r1
  obtain ⟨rfl, rfl, rfl⟩ := trodAll_nil r2
  obtain rfl : args = #[v0, v1, v2] := by cases args; simp_all
  obtain ⟨rfl, rfl⟩ := trodVars_none hV
  obtain ⟨a0, rfl, rfl, rfl, w0⟩ := open_int Try.underlying3 (hval 0 3 v0 rfl rfl) h0
  have k1 := h1
  have lt1 : ∀ x ∈ p1, x.block < W.heap.size := by obtain ⟨m, hm⟩ := k1; exact DataW.trod_lt m _ _ _ hm
  obtain ⟨a1, rfl, w1⟩ := open_arr2 (hval 1 41 v1 rfl rfl) h1
  obtain ⟨a2, len2, cap2, rfl⟩ := okWide_slice Try.underlying22 (hval 2 22 v2 rfl rfl)
  have k2 := h2
  have lt2 : ∀ x ∈ p2, x.block < W.heap.size := by obtain ⟨m, hm⟩ := k2; exact DataW.trod_lt m _ _ _ hm
  obtain ⟨z2, w2⟩ := open_samps h2
  clear hA0 hval0
  refine (walk a0 a1 a2 len2 cap2 z2 W w0 w1 w2).mono fun e W' ⟨he, bel⟩ => ?_
  subst he
  exact ⟨_, rfl, _, _, _, [], _, [], hW', trodAll_mk1 (shut_bool Try.underlying4 _), (trodAll_cons_mk (shut_int Try.underlying3 w0) (trodAll_cons_mk (Below.trod laidOut (by kernel_rfl) (of_decide_eq_true (by kernel_rfl)) k1 bel lt1) (trodAll_cons_mk (Below.trod laidOut (by kernel_rfl) (of_decide_eq_true (by kernel_rfl)) k2 bel lt2) trodAll_mk0))), rfl, bel.frame _, fun h => by cases h⟩

theorem over : Rows.rowsFillsRow.holds Try.pinned (OpenSpec.ofChange Rows.rowsFillsSpec) :=
  OpenClaim.holds_of_wide 4 Try.f4 rfl rfl rfl rfl rfl rfl rfl ⟨rfl, rfl, rfl, rfl, rfl⟩ rfl rfl rfl rfl rfl (by kernel_rfl) Try.func4 (by kernel_rfl)
    (of_decide_eq_true (by kernel_rfl)) (by unfold Func.isWrapper; first | (rw [if_pos (by decide +kernel)]; kernel_rfl) | (rw [if_neg (by decide +kernel)]; exact ⟨rfl, rfl⟩))
    (fun os started H enc _ => lifted os started H enc)

theorem proved : Rows.RowsFillsSaid := over
end rowsFills
theorem rowsFills_holds : Rows.RowsFillsSaid := rowsFills.proved
#print axioms rowsFills_holds
end Go.Proofs.Ytpahohnpcfgegaa
