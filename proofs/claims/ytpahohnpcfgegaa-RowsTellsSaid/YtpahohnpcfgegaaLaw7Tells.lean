/-
  The statement 'RowsTells' of layer 7: what any query is told of any samples is as the document says; so is what is wrong with it, and whether a sample passes.
  No condition on the arguments.
-/
import Derived.Test.YtpahohnpcfgegaaTKnown
import Derived.Test.YtpahohnpcfgegaaTArgs
import Derived.Test.YtpahohnpcfgegaaRows
import Derived.Test.YtpahohnpcfgegaaTRTell
import Derived.Deep.RegionHeld3
import Derived.BigRegion
import Derived.ChangeOld
namespace Go.Proofs.Ytpahohnpcfgegaa
namespace rowsTells
open Go.ChangeShapes Go.WideShapes Go.ChangeAt Go.RowKit
set_option linter.unusedVariables false
set_option linter.unusedSimpArgs false

theorem own : ownKnob Try.prog.godebug = none := by kernel_rfl


theorem plain_x (q : Qry) (a : Option Addr) (n c : Nat) (w : World) :
    Calls Try.prog 12 #[.agg #[.int .i64 q.fr, .int .i64 q.to, .bool q.back, .int .i64 q.cnt, .int .i64 q.kd, .int .i64 q.sz, .int .i64 q.al, .bool q.emp, .slice a n c, .bool q.vals, .int .i64 q.lo, .int .i64 q.hi]] w fun e w' => e = .returned (.agg #[.int .i64 q.fr, .int .i64 q.to, .bool q.back, .int .i64 q.cnt, .int .i64 q.kd, .int .i64 q.sz, .int .i64 q.al, .bool q.emp, .slice a n c, .bool q.vals, .int .i64 q.lo, .int .i64 q.hi]) ∧ Below w.heap.size w w' := plain_any q a n c w
theorem same_t (a1 a2 : Option Addr) (n1 n2 c1 c2 : Nat) (x : List (Int × Int)) (w : World) (hx : SampAt w a1 n1 c1 x) (hy : SampAt w a2 n2 c2 x) :
    Calls Try.prog 13 #[.slice a1 n1 c1, .slice a2 n2 c2] w fun e w' => e = .returned (.bool true) ∧ Below w.heap.size w w' := by
  refine (same_any a1 a2 n1 n2 c1 c2 x x w hx hy).mono ?_
  rintro e w' ⟨rfl, d⟩
  exact ⟨by rw [decide_eq_true rfl], d.below⟩
def CX (W : World) (qb : Nat) (q : Qry) (a : Option Addr) (n c : Nat) (t v : Int) : Prop := QC W qb q a n c ∧ W.cell? ⟨qb + 1, 0, none⟩ = some (.int .i64 t) ∧ W.cell? ⟨qb + 1, 1, none⟩ = some (.int .i64 v)
theorem CX.keep {W W' : World} {B qb : Nat} {q : Qry} {a : Option Addr} {n c : Nat} {t v : Int} (h : CX W qb q a n c t v) (k : Below B W W') (hb : qb + 1 < B) : CX W' qb q a n c t v :=
  ⟨h.1.keep k (by omega), by rw [k.cell hb]; exact h.2.1, by rw [k.cell hb]; exact h.2.2⟩

set_option maxRecDepth 100000 in
set_option maxHeartbeats 8000000 in
theorem walk0 (sa : Option Addr) (len cap : Nat) (z : List (Int × Int)) (q : Qry) (a : Option Addr) (n c : Nat) (t v : Int) (w : World) (hz : SampAt w sa len cap z) (hi : IntAt w a n c q.tm) :
    Calls Try.prog 3 #[.slice sa len cap, qv q a n c, .agg #[.int .i64 t, .int .i64 v]] w fun e w' => e = .returned (.bool true) ∧ Below w.heap.size w w' := by
  have HZ := Lib.hid hz
  have HI := Lib.hid hi
  have HN := Lib.hid (show q.tm.length = n ∧ n ≤ 9223372036854775807 from ⟨hi.1, hi.2.2.1⟩)
  have HA := Lib.hid (alloc2 w (.cells #[.int .i64 q.fr, .int .i64 q.to, .bool q.back, .int .i64 q.cnt, .int .i64 q.kd, .int .i64 q.sz, .int .i64 q.al, .bool q.emp, .slice a n c, .bool q.vals, .int .i64 q.lo, .int .i64 q.hi] 25) (.cells #[.int .i64 t, .int .i64 v] 27) _ rfl)
  clear hz hi
  unfold qv
  by_cases hl : 60 < len
  · have hl' : (60 : Int) < (len : Int) := by omega
    go_enter Try.func3, Try.ntmps3
    go_wp2_with fail
    have B1 := HA.out.2.2.1
    refine (tknown_any _).mono ?_
    rintro e W2 ⟨rfl, b2⟩
    have B2 := B1.trans (b2.mono B1.size)
    clear HA
    go_wp2
    go_ret
    exact ⟨rfl, B2⟩
  · have hl' : ¬ (60 : Int) < (len : Int) := by omega
    by_cases hn : 60 < n
    · have hn' : (60 : Int) < (n : Int) := by omega
      go_enter Try.func3, Try.ntmps3
      go_wp2_with fail
      have B1 := HA.out.2.2.1
      refine (tknown_any _).mono ?_
      rintro e W2 ⟨rfl, b2⟩
      have B2 := B1.trans (b2.mono B1.size)
      clear HA
      go_wp2
      go_ret
      exact ⟨rfl, B2⟩
    · have hn' : ¬ (60 : Int) < (n : Int) := by omega
      go_enter Try.func3, Try.ntmps3
      go_wp2_with fail
      generalize (w.alloc (.cells #[.int .i64 q.fr, .int .i64 q.to, .bool q.back, .int .i64 q.cnt, .int .i64 q.kd, .int .i64 q.sz, .int .i64 q.al, .bool q.emp, .slice a n c, .bool q.vals, .int .i64 q.lo, .int .i64 q.hi] 25)).alloc (.cells #[.int .i64 t, .int .i64 v] 27) = W1 at *
      obtain ⟨hq1, hx1, B1, s1⟩ := HA.out
      have HCX := Lib.hid (show CX W1 w.heap.size q a n c t v from ⟨qc_of (q := q) (a := a) (n := n) (c := c) hq1, by rw [cell_of hx1]; rfl, by rw [cell_of hx1]; rfl⟩)
      have HZ1 := Lib.hid (HZ.out.keep B1)
      have HI1 := Lib.hid (HI.out.keep B1)
      generalize hqb : w.heap.size = qb at *
      have HQB := Lib.hid hqb
      clear hqb hq1 hx1 HA
      refine (tell_any q a n c sa len cap z _ HZ1.out HI1.out (by omega)).mono ?_
      rintro e W2 ⟨a2, n2, c2, rfl, S2, b2⟩
      have B2 := B1.trans (b2.mono (by omega))
      have H2 := Lib.hid (HCX.out.keep b2 (by omega))
      have HZ2 := Lib.hid (HZ1.out.keep b2)
      have HI2 := Lib.hid (HI1.out.keep b2)
      have s2 := b2.size
      clear b2 B1
      obtain ⟨⟨c0, c1, c2, c3, c4, c5, c6, c7, c8, c9, c10, c11⟩, d0, d1⟩ := H2.out
      go_wp2_with fail
      refine (plain_x q a n c _).mono ?_
      rintro e W3 ⟨rfl, b3⟩
      have B3 := B2.trans (b3.mono (by omega))
      have H3 := Lib.hid (H2.out.keep b3 (by omega))
      have HZ3 := Lib.hid (HZ2.out.keep b3)
      have HI3 := Lib.hid (HI2.out.keep b3)
      replace S2 := S2.keep b3
      have s3 := b3.size
      clear b3 B2 c0 c1 c2 c3 c4 c5 c6 c7 c8 c9 c10 c11 d0 d1
      go_wp2_with fail
      refine (rtell_any q a n c sa len cap z _ HZ3.out HI3.out (by omega)).mono ?_
      rintro e W4 ⟨a4, n4, c4, rfl, S4, b4⟩
      have B4 := B3.trans (b4.mono (by omega))
      have H4 := Lib.hid (H3.out.keep b4 (by omega))
      have HI4 := Lib.hid (HI3.out.keep b4)
      replace S2 := S2.keep b4
      have s4 := b4.size
      clear b4 B3
      go_wp2_with fail
      generalize (tellR q z).2 = er at *
      have te : (er == er) = true := beq_self_eq_true er
      obtain ⟨r1, hr1⟩ : ∃ r, errR q = r := ⟨_, rfl⟩
      obtain ⟨r2, hr2⟩ : ∃ r, passB q (t, v) = r := ⟨_, rfl⟩
      have t1 : (r1 == r1) = true := beq_self_eq_true r1
      have t2 : (r2 == r2) = true := beq_self_eq_true r2
      have HR1 := Lib.hid hr1
      have HR2 := Lib.hid hr2
      clear hr1 hr2
      have HKX := Lib.hid (show ∀ W, Below W4.heap.size W4 W → CX W qb q a n c t v from fun W hW => H4.out.keep hW (by omega))
      have HKI := Lib.hid (show ∀ W, Below W4.heap.size W4 W → IntAt W a n c q.tm from fun W hW => HI4.out.keep hW)
      have HKS2 := Lib.hid (show ∀ W, Below W4.heap.size W4 W → SampAt W a2 n2 c2 (tellR q z).1 from fun W hW => S2.keep hW)
      have HKS4 := Lib.hid (show ∀ W, Below W4.heap.size W4 W → SampAt W a4 n4 c4 (tellR q z).1 from fun W hW => S4.keep hW)
      have BD := Lib.hid ((Below.refl W4.heap.size W4).drew)
      obtain ⟨⟨c0, c1, c2, c3, c4, c5, c6, c7, c8, c9, c10, c11⟩, d0, d1⟩ := H4.out
      clear S2 S4
      go_region_held3 (fun w' => (w'.cell? ⟨qb, 0, none⟩ = some (.int .i64 q.fr) ∧ w'.cell? ⟨qb, 1, none⟩ = some (.int .i64 q.to) ∧ w'.cell? ⟨qb, 2, none⟩ = some (.bool q.back) ∧ w'.cell? ⟨qb, 3, none⟩ = some (.int .i64 q.cnt) ∧ w'.cell? ⟨qb, 4, none⟩ = some (.int .i64 q.kd) ∧ w'.cell? ⟨qb, 5, none⟩ = some (.int .i64 q.sz) ∧ w'.cell? ⟨qb, 6, none⟩ = some (.int .i64 q.al) ∧ w'.cell? ⟨qb, 7, none⟩ = some (.bool q.emp) ∧ w'.cell? ⟨qb, 8, none⟩ = some (.slice a n c) ∧ w'.cell? ⟨qb, 9, none⟩ = some (.bool q.vals) ∧ w'.cell? ⟨qb, 10, none⟩ = some (.int .i64 q.lo) ∧ w'.cell? ⟨qb, 11, none⟩ = some (.int .i64 q.hi)) ∧ w'.cell? ⟨qb + 1, 0, none⟩ = some (.int .i64 t) ∧ w'.cell? ⟨qb + 1, 1, none⟩ = some (.int .i64 v))
        (first
          | exact HKX.out _ B12.out
          | exact HKX.out _ B11.out
          | exact HKX.out _ B10.out
          | exact HKX.out _ B9.out
          | exact HKX.out _ B8.out
          | exact HKX.out _ B7.out
          | exact HKX.out _ B6.out
          | exact HKX.out _ B5.out
          | exact HKX.out _ BD.out
          | go_keep
          | fail)
        (first
          | (go_at_call 13
             (with_reducible refine (same_t _ _ _ _ _ _ _ _ (HKS2.out _ BD.out) (HKS4.out _ BD.out)).mono ?_)
             rintro e W5 ⟨rfl, b5⟩
             have B5 := Lib.hid (BD.out.trans (b5.mono BD.out.size))
             clear b5)
          | (go_at_call 14
             (with_reducible refine (right_x q a n c _ HN.out.1 HN.out.2).mono ?_)
             rintro e W6 ⟨rfl, b6⟩
             rw [HR1.out]
             have B6 := Lib.hid (B5.out.trans (b6.mono B5.out.size))
             clear b6)
          | (go_at_call 12
             have hh := B9.out
             (with_reducible refine (plain_x q a n c _).mono ?_)
             rintro e W10 ⟨rfl, b10⟩
             have B10 := Lib.hid (B9.out.trans (b10.mono B9.out.size))
             clear b10 hh)
          | (go_at_call 12
             (with_reducible refine (plain_x q a n c _).mono ?_)
             rintro e W7 ⟨rfl, b7⟩
             have B7 := Lib.hid (B6.out.trans (b7.mono B6.out.size))
             clear b7)
          | (go_at_call 15
             (with_reducible refine (rright_x q a n c _ HN.out.1 HN.out.2).mono ?_)
             rintro e W8 ⟨rfl, b8⟩
             rw [HR1.out]
             have B8 := Lib.hid (B7.out.trans (b8.mono B7.out.size))
             clear b8)
          | (go_at_call 16
             (with_reducible refine (pass_x q a n c t v _ (HKI.out _ B8.out)).mono ?_)
             rintro e W9 ⟨rfl, b9⟩
             rw [HR2.out]
             have B9 := Lib.hid (B8.out.trans (b9.mono B8.out.size))
             clear b9)
          | (go_at_call 17
             (with_reducible refine (rpass_x q a n c t v _ (HKI.out _ B10.out)).mono ?_)
             rintro e W11 ⟨rfl, b11⟩
             rw [HR2.out]
             have B11 := Lib.hid (B10.out.trans (b11.mono B10.out.size))
             clear b11)
          | (go_at_call 9
             (with_reducible refine (tknown_any _).mono ?_)
             rintro e W12 ⟨rfl, b12⟩
             have B12 := Lib.hid (B11.out.trans (b12.mono B11.out.size))
             clear b12)
          | fail)
      all_goals
        go_wp2
        go_ret
        exact ⟨rfl, by rw [HQB.out]; exact B4.trans (B12.out.mono (by omega))⟩

theorem walk (a0 : Option Addr) (len0 cap0 : Nat) (z0 : List (Int × Int)) (a1 : Qry) (qa1 : Option Addr) (qn1 qc1 : Nat) (a2 : Int × Int) (w : World) (w0 : SampAt w a0 len0 cap0 z0) (w1 : Q64 a1) (iw1 : IntAt w qa1 qn1 qc1 a1.tm) (w2 : in64 a2.1 ∧ in64 a2.2) :
    Calls Try.prog 3 #[.slice a0 len0 cap0, qv a1 qa1 qn1 qc1, .agg #[.int .i64 a2.1, .int .i64 a2.2]] w fun e w' => e = .returned (.bool true) ∧ Below w.heap.size w w' := walk0 a0 len0 cap0 z0 a1 qa1 qn1 qc1 a2.1 a2.2 w w0 iw1

set_option maxRecDepth 100000 in
theorem lifted (os : Os) (started : os.Started) (H : Type) (enc : TypeId × Value → H) :
    ReturnsInHanded {} Try.checked os 3 .any (Rows.rowsTellsSpec.pre6 enc Try.prog Try.f3 Rows.rowsTellsRow.domain false) (Rows.rowsTellsSpec.post enc Try.prog Try.f3 false true false false) := by
  refine returnsInHanded_of_change (C := Try.checked) own started (by kernel_rfl) Try.func3
    (ChangeSpec.witness6 (enc := enc) (C := Try.checked) false ⟨#[], #[.slice none 0 0, .agg #[.int .i64 0, .int .i64 0, .bool false, .int .i64 0, .int .i64 0, .int .i64 0, .int .i64 0, .bool false, .slice none 0 0, .bool false, .int .i64 0, .int .i64 0], .agg #[.int .i64 0, .int .i64 0]], []⟩ 8 (by kernel_rfl) (by kernel_rfl) (by kernel_rfl) (by kernel_rfl)) ?_
  intro W base args ds gs before hval0 hW hcnd _
  have hval : ∀ (j : Nat) t v, Try.f3.params[j]? = some t → args[j]? = some v → Value.okWide Try.prog W .any base t v := hval0
  have hW' := hW
  obtain ⟨p, q, hA0, hV, rfl, hfz, hnd⟩ := hW
  have hA : DataW.TrodAll enc Try.prog W 0 (fun _ => true) true Try.f3.params.toList args.toList ds p := hA0
  rw [Try.params3] at hA hval
  obtain ⟨v0, vs0, d0, ds0, p0, q0, hargs, rfl, rfl, h0, r0⟩ := trodAll_cons hA
  obtain ⟨v1, vs1, d1, ds1, p1, q1, rfl, rfl, rfl, h1, r1⟩ := trodAll_cons r0
  obtain ⟨v2, vs2, d2, ds2, p2, q2, rfl, rfl, rfl, h2, r2⟩ := trodAll_cons r1
  obtain ⟨rfl, rfl, rfl⟩ := trodAll_nil r2
  obtain rfl : args = #[v0, v1, v2] := by cases args; simp_all
  obtain ⟨rfl, rfl⟩ := trodVars_none hV
  obtain ⟨a0, len0, cap0, rfl⟩ := okWide_slice Try.underlying22 (hval 0 22 v0 rfl rfl)
  have k0 := h0
  have lt0 : ∀ x ∈ p0, x.block < W.heap.size := by obtain ⟨m, hm⟩ := k0; exact DataW.trod_lt m _ _ _ hm
  obtain ⟨z0, w0⟩ := open_samps h0
  have k1 := h1
  have lt1 : ∀ x ∈ p1, x.block < W.heap.size := by obtain ⟨m, hm⟩ := k1; exact DataW.trod_lt m _ _ _ hm
  obtain ⟨a1, qa1, qn1, qc1, rfl, w1, iw1⟩ := open_qry (hval 1 25 v1 rfl rfl) h1
  have k2 := h2
  have lt2 : ∀ x ∈ p2, x.block < W.heap.size := by obtain ⟨m, hm⟩ := k2; exact DataW.trod_lt m _ _ _ hm
  obtain ⟨a2, rfl, w2⟩ := open_sample7 (hval 2 27 v2 rfl rfl) h2
  clear hA0 hval0
  refine (walk a0 len0 cap0 z0 a1 qa1 qn1 qc1 a2 W w0 w1 iw1 w2).mono fun e W' ⟨he, bel⟩ => ?_
  subst he
  exact ⟨_, rfl, _, _, _, [], _, [], hW', trodAll_mk1 (shut_bool Try.underlying4 _), (trodAll_cons_mk (Below.trod laidOut (by kernel_rfl) (of_decide_eq_true (by kernel_rfl)) k0 bel lt0) (trodAll_cons_mk (Below.trod laidOut (by kernel_rfl) (of_decide_eq_true (by kernel_rfl)) k1 bel lt1) (trodAll_cons_mk (Below.trod laidOut (by kernel_rfl) (of_decide_eq_true (by kernel_rfl)) k2 bel lt2) trodAll_mk0))), rfl, bel.frame _, fun h => by cases h⟩

theorem over : Rows.rowsTellsRow.holds Try.pinned (OpenSpec.ofChange Rows.rowsTellsSpec) :=
  OpenClaim.holds_of_wide 3 Try.f3 rfl rfl rfl rfl rfl rfl rfl ⟨rfl, rfl, rfl, rfl, rfl⟩ rfl rfl rfl rfl rfl (by kernel_rfl) Try.func3 (by kernel_rfl)
    (of_decide_eq_true (by kernel_rfl)) (by unfold Func.isWrapper; first | (rw [if_pos (by decide +kernel)]; kernel_rfl) | (rw [if_neg (by decide +kernel)]; exact ⟨rfl, rfl⟩))
    (fun os started H enc _ => lifted os started H enc)

theorem proved : Rows.RowsTellsSaid := over
end rowsTells
theorem rowsTells_holds : Rows.RowsTellsSaid := rowsTells.proved
#print axioms rowsTells_holds
end Go.Proofs.Ytpahohnpcfgegaa
