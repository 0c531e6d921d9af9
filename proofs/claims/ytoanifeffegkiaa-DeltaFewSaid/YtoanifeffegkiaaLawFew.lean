/-
  The statement 'DeltaFew' of layer 2: for every time, step, value and count, samples of the same step and the same value need two bits each, but the first two; no code is longer than 68 bits, and a lesser number has none that is longer.
  No condition.
-/
import Derived.Test.YtoanifeffegkiaaDKnown
import Derived.ShutString
import Derived.ChangeOld
import Derived.Laws.IdiomArrays
namespace Go.Proofs.Ytoanifeffegkiaa
namespace deltaFew
open Go.ChangeShapes Go.WideShapes Go.ChangeAt Go.RowKit
set_option linter.unusedVariables false
set_option linter.unusedSimpArgs false

theorem own : ownKnob Try.prog.godebug = none := by kernel_rfl
theorem laidOut : laidOutB Try.prog = true := by kernel_rfl

theorem open_arr3 {H : Type} {enc : TypeId × Value → H} {W : World} {r : Reach} {b0 : Nat} {v : Value} {d : DataW H} {p : List MemPlace}
    (hv : Value.okWide Try.prog W r b0 57 v) (h : DataW.Trod enc Try.prog W 0 (fun _ => true) true 57 v d p) :
    ∃ z : Int × Int × Int, v = .agg #[.int .i64 z.1, .int .i64 z.2.1, .int .i64 z.2.2] ∧ in64 z.1 ∧ in64 z.2.1 ∧ in64 z.2.2 := by
  simp only [Value.okWide, Try.underlying57] at hv
  obtain ⟨cs, rfl, hsz, _⟩ := hv
  have hc : cs.size = 3 := hsz.trans (by kernel_rfl)
  obtain ⟨l⟩ := cs
  match l, hc with
  | [c0, c1, c2], _ =>
    obtain ⟨fuel, hf⟩ := h
    obtain ⟨y0, y1, y2, n, _, h0, h1, h2⟩ := trod_array3 Try.underlying57 (by kernel_rfl) hf
    obtain ⟨n0, e0, _, w0⟩ := DataW.trod_int Try.underlying3 h0
    obtain ⟨n1, e1, _, w1⟩ := DataW.trod_int Try.underlying3 h1
    obtain ⟨n2, e2, _, w2⟩ := DataW.trod_int Try.underlying3 h2
    simp at e0 e1 e2
    subst e0 e1 e2
    exact ⟨(n0, n1, n2), rfl, bounds_i64 w0, bounds_i64 w1, bounds_i64 w2⟩

def row (t s v : Int) (m : Nat) : List (Int × Int) := (List.range m).map fun i : Nat => (wrap64 (t + wrap64 ((i : Int) * s)), v)
theorem row_length (t s v : Int) (m : Nat) : (row t s v m).length = m := by simp [row]
theorem row_snoc (t s v : Int) (m : Nat) : row t s v (m + 1) = row t s v m ++ [(wrap64 (t + wrap64 ((m : Int) * s)), v)] := by simp [row, List.range_succ]
theorem row_at (t s v : Int) (m i : Nat) (h : i < m) : tOf (row t s v m) i = wrap64 (t + wrap64 ((i : Int) * s)) ∧ vOf (row t s v m) i = v := by
  unfold tOf vOf row
  simp [List.getD_eq_getElem?_getD, List.getElem?_range h]
theorem row_all (t s v : Int) (m : Nat) (hv : in64 v) : All64 (row t s v m) := by
  intro x hx
  simp [row] at hx
  obtain ⟨a, _, rfl⟩ := hx
  exact ⟨wrap64_in64 _, hv⟩
theorem step_is (t p s : Int) (hs : in64 s) : wrap64 (wrap64 (t + wrap64 (p + s)) - wrap64 (t + wrap64 p)) = s := by unfold in64 at hs; unfold wrap64; omega
theorem row_step (t s v : Int) (m i : Nat) (hs : in64 s) (h : i + 1 < m) : stepOf (row t s v m) (i + 1) = s := by
  rw [stepOf, (row_at t s v m (i + 1) h).1, (row_at t s v m i (by omega)).1]
  have e : ((i + 1 : Nat) : Int) * s = (i : Int) * s + s := by rw [Int.natCast_add, Int.add_mul]; simp
  rw [e, step_is _ _ _ hs]
theorem row_vnum (t s v : Int) (m i : Nat) (h : i + 1 < m) : vNum (row t s v m) i = 0 := by
  rw [vNum, (row_at t s v m (i + 1) h).2, (row_at t s v m i (by omega)).2, Int.sub_self]; decide +kernel
theorem row_tnum0 (t s v : Int) (m : Nat) (hs : in64 s) (h : 1 < m) : tNum (row t s v m) 0 = zigZ s := by
  rw [tNum, row_step t s v m 0 hs h, stepOf, Int.sub_zero]
  congr 1
  unfold in64 at hs; unfold wrap64; omega
theorem row_tnum (t s v : Int) (m i : Nat) (hs : in64 s) (h : i + 2 < m) : tNum (row t s v m) (i + 1) = 0 := by
  rw [tNum, row_step t s v m (i + 1) hs h, row_step t s v m i hs (by omega), Int.sub_self]; decide +kernel
theorem csize0 : csize 0 = 1 := by decide
theorem row_bits (t s v : Int) (m : Nat) (hs : in64 s) (j : Nat) (h : j + 2 ≤ m) : (encTo (row t s v m) (j + 2)).length = 128 + csize (zigZ s) + 1 + 2 * j := by
  induction j with
  | zero => rw [encTo_len_step, encTo_len_one, row_tnum0 t s v m hs (by omega), row_vnum t s v m 0 (by omega), csize0]
  | succ j ih =>
    rw [encTo_len_step, ih (by omega), row_tnum t s v m j hs (by omega), row_vnum t s v m (j + 1) (by omega), csize0]
    omega
def want (s : Int) : Nat → Nat
  | 0 => 0
  | 1 => 128
  | j + 2 => 128 + csize (zigZ s) + 1 + 2 * j
theorem row_want (t s v : Int) (m : Nat) (hs : in64 s) : (encTo (row t s v m) m).length = want s m := by
  match m with
  | 0 => rfl
  | 1 => exact encTo_len_one _
  | j + 2 => exact row_bits t s v (j + 2) hs j (Nat.le_refl _)

theorem half_is (s : Int) : IntKind.u64.wrap ((IntKind.u64.wrap s).tdiv 2) = ((u64 s / 2 : Nat) : Int) := by
  have h : IntKind.u64.wrap s = ((u64 s : Nat) : Int) := by rw [IntKind.wrap_u64]; unfold u64; omega
  have hl := u64_lt s
  rw [h, Int.tdiv_eq_ediv_of_nonneg (by omega), IntKind.wrap_u64]; omega
theorem sizeI (u : Int) (n : Nat) (w : World) (hn : n < 18446744073709551616) (h : u = (n : Int)) :
    Calls Try.prog 18 #[.int .u64 u] w fun e w' => e = .returned (.int .i64 (csize n : Int)) ∧ w = w' := by
  subst h; exact size_any n w hn

set_option maxRecDepth 100000 in
set_option maxHeartbeats 4000000 in
theorem walk (x : Int × Int × Int) (k : Int) (w : World) (hx : in64 x.1 ∧ in64 x.2.1 ∧ in64 x.2.2) (hk : (Lit.int .u8 k).wf = true) :
    Calls Try.prog 6 #[.agg #[.int .i64 x.1, .int .i64 x.2.1, .int .i64 x.2.2], .int .u8 k] w fun e w' => e = .returned (.bool true) ∧ Below w.heap.size w w' := by
  obtain ⟨t, s, v⟩ := x
  simp only at hx ⊢
  obtain ⟨ht, hs, hv⟩ := hx
  have hkb := bounds_u8 hk
  clear hk
  obtain ⟨k, rfl⟩ := Int.eq_ofNat_of_zero_le hkb.1
  obtain ⟨m, hm⟩ : ∃ m, m = k % 100 := ⟨_, rfl⟩
  have hm100 : m < 100 := by omega
  have hk255 : k ≤ 255 := by omega
  have hkm : (k : Int) % 100 = (m : Int) := by omega
  have HKM := Lib.hid hkm
  have hs0 := hs.1
  have hs1 := hs.2
  have HS := Lib.hid hs
  have HV := Lib.hid hv
  clear hm hkb ht hs hv
  obtain ⟨i0, hi, hz0, hz1, hz2⟩ := info_parts info_samp
  go_enter Try.func6, Try.ntmps6
  go_wp2
  have B1 := (Below.refl w.heap.size w).alloc (Nat.le_refl _) (.cells #[.int .i64 t, .int .i64 s, .int .i64 v] 57)
  generalize w.alloc (.cells #[.int .i64 t, .int .i64 s, .int .i64 v] 57) = W1 at *
  go_loopw [8, 9] (fun l i wr => ∃ j : Nat, j ≤ m ∧ i = .int .i64 (j : Int) ∧ wr.ownsRow w.heap.size 59 2 l j (smpCells (row t s v j)) ∧ Below w.heap.size w wr) (fun _ i _ => m - (intOf i).toNat)
  case atStart => exact ⟨0, Nat.zero_le _, rfl, World.ownsRow_nil _ _ _ _, B1⟩
  case round =>
    obtain ⟨j, hj, rfl, hown, B2⟩ := hrel
    have s2 := B2.size
    by_cases hjm : j < m
    · have hjk : (j : Int) < (m : Int) := by omega
      have HT := Lib.hid (row_snoc t s v j)
      obtain ⟨xt, hxt⟩ : ∃ xt, wrap64 (t + wrap64 ((j : Int) * s)) = xt := ⟨_, rfl⟩
      rw [hxt] at HT
      have HON : Hid (∀ u ∈ [Value.int .i64 xt, Value.int .i64 v], u.oneCell' = true) := by
        intro u hu
        simp at hu
        rcases hu with rfl | rfl <;> rfl
      go_wp2_with (at_builtin; refine wpList_append_own _ rfl _ _ 23 rfl w.heap.size 59 i0 _ 2 16 Try.underlying23 hi hz0 hz1 hz2 rfl (by decide) _ _ _ rfl (hown.alloc _) ⟨wr.heap.size, 0, none⟩ 1 1 [.int .i64 xt, .int .i64 v] rfl rfl (two_cells _ _ _ _) HON.out (by unfold maxLen; omega) (by omega) (by simp; omega) ?_)
      intro v8 W8 ho8 g8 _
      have B8 := (B2.alloc s2 (.cells #[.int .i64 xt, .int .i64 v] 59)).grown g8 (by simp; omega) (fun k hk => (hown.lt k hk).1)
      clear hown g8 B2 s2 hxt
      go_wp2
      go_roundw
      case rel => exact ⟨j + 1, by omega, by go_num, by rw [HT.out, smpCells_snoc]; exact ho8, B8⟩
      case measure => simp [intOf]; omega
    · obtain rfl : j = m := by omega
      have hjk : ¬ ((j : Int) < (j : Int)) := by omega
      have HRL := Lib.hid (row_length t s v j)
      have hown' : wr.ownsRow w.heap.size 59 2 u8 (row t s v j).length (smpCells (row t s v j)) := by rw [HRL.out]; exact hown
      obtain ⟨ad, cp, rfl, hm, _⟩ := owns_samps (row_all t s v j HV.out) (by rw [HRL.out]; omega) hown'
      rw [HRL.out] at hm ⊢
      have HW := Lib.hid (row_want t s v j HS.out)
      have hzl := zigZ_lt s HS.out
      have hu1 := u64_lt s
      have hu2 : u64 s / 2 < 18446744073709551616 := by omega
      have hca := csize_le (u64 s)
      have hcb := csize_le (u64 s / 2)
      have hcm := csize_mono (u64 s / 2) (u64 s) (Nat.div_le_self _ _)
      have hcz := csize_le (zigZ s)
      have HU := Lib.hid (show s % 18446744073709551616 = ((u64 s : Nat) : Int) from by unfold u64; omega)
      clear hown hown' hjm hj hi hz0 hz1 hz2
      rcases (show j = 0 ∨ j = 1 ∨ (0 < j ∧ 1 < j) by omega) with hj0 | hj0 | hj0
      · subst hj0
        have HWI := Lib.hid (show (((encTo (row t s v 0) 0).length : Nat) : Int) = 0 from by rw [HW.out]; rfl)
        have hkq := HKM.out
        simp only [Int.natCast_zero, Int.natCast_one] at hkq
        clear HKM hkm hjk HW HRL
        go_wp2_with fail
        refine (sizeI _ (u64 s) _ hu1 HU.out).mono ?_
        rintro e w' ⟨rfl, rfl⟩
        go_wp2_with fail
        refine (sizeI _ (u64 s / 2) _ hu2 (half_is s)).mono ?_
        rintro e w' ⟨rfl, rfl⟩
        generalize csize (u64 s) = ca at *
        generalize csize (u64 s / 2) = cb at *
        have q1 : (ca : Int) ≤ 68 := by omega
        have q2 : (cb : Int) ≤ (ca : Int) := by omega
        have q3 : (1 : Int) ≤ (cb : Int) := by omega
        go_wp2_with fail
        refine (dbits_any ad _ cp _ _ hm (by omega)).mono ?_
        rintro e W4 ⟨rfl, b4⟩
        have B4 := bel_gbn B2 s2 (gb_below b4)
        have s4 := Nat.le_trans s2 b4.size
        rw [HWI.out]
        clear b4 B2 hm s2
        go_wp2_with fail
        refine (known_any _).mono ?_
        rintro e W6 ⟨rfl, b6⟩
        have B6 := bel_gbn B4 s4 (gb_below b6)
        clear b6 B4
        go_wp2
        go_ret
        exact ⟨rfl, B6⟩
      · subst hj0
        have HWI := Lib.hid (show (((encTo (row t s v 1) 1).length : Nat) : Int) = 128 from by rw [HW.out]; rfl)
        have hkq := HKM.out
        simp only [Int.natCast_zero, Int.natCast_one] at hkq
        clear HKM hkm hjk HW HRL
        go_wp2_with fail
        refine (sizeI _ (u64 s) _ hu1 HU.out).mono ?_
        rintro e w' ⟨rfl, rfl⟩
        go_wp2_with fail
        refine (sizeI _ (u64 s / 2) _ hu2 (half_is s)).mono ?_
        rintro e w' ⟨rfl, rfl⟩
        generalize csize (u64 s) = ca at *
        generalize csize (u64 s / 2) = cb at *
        have q1 : (ca : Int) ≤ 68 := by omega
        have q2 : (cb : Int) ≤ (ca : Int) := by omega
        have q3 : (1 : Int) ≤ (cb : Int) := by omega
        go_wp2_with fail
        refine (dbits_any ad _ cp _ _ hm (by omega)).mono ?_
        rintro e W4 ⟨rfl, b4⟩
        have B4 := bel_gbn B2 s2 (gb_below b4)
        have s4 := Nat.le_trans s2 b4.size
        rw [HWI.out]
        clear b4 B2 hm s2
        go_wp2_with fail
        refine (known_any _).mono ?_
        rintro e W6 ⟨rfl, b6⟩
        have B6 := bel_gbn B4 s4 (gb_below b6)
        clear b6 B4
        go_wp2
        go_ret
        exact ⟨rfl, B6⟩
      · obtain ⟨hj1, hj2⟩ := hj0
        have HWI := Lib.hid (show (((encTo (row t s v j) j).length : Nat) : Int) = 128 + (csize (zigZ s) : Int) + 1 + 2 * ((j : Int) - 2) from by
          rw [HW.out]
          obtain ⟨i, rfl⟩ : ∃ i, j = i + 2 := ⟨j - 2, by omega⟩
          simp only [want]
          omega)
        clear HKM HW HRL
        go_wp2_with fail
        refine (zigZ_any s _ HS.out).mono ?_
        rintro e w' ⟨rfl, rfl⟩
        go_wp2_with fail
        refine (size_any (zigZ s) _ hzl).mono ?_
        rintro e w' ⟨rfl, rfl⟩
        generalize csize (zigZ s) = cz at *
        go_wp2_with fail
        refine (sizeI _ (u64 s) _ hu1 HU.out).mono ?_
        rintro e w' ⟨rfl, rfl⟩
        go_wp2_with fail
        refine (sizeI _ (u64 s / 2) _ hu2 (half_is s)).mono ?_
        rintro e w' ⟨rfl, rfl⟩
        generalize csize (u64 s) = ca at *
        generalize csize (u64 s / 2) = cb at *
        have q1 : (ca : Int) ≤ 68 := by omega
        have q2 : (cb : Int) ≤ (ca : Int) := by omega
        have q3 : (1 : Int) ≤ (cb : Int) := by omega
        go_wp2_with fail
        refine (dbits_any ad _ cp _ _ hm (by omega)).mono ?_
        rintro e W4 ⟨rfl, b4⟩
        have B4 := bel_gbn B2 s2 (gb_below b4)
        have s4 := Nat.le_trans s2 b4.size
        rw [HWI.out]
        clear b4 B2 hm s2
        go_wp2_with fail
        refine (known_any _).mono ?_
        rintro e W6 ⟨rfl, b6⟩
        have B6 := bel_gbn B4 s4 (gb_below b6)
        clear b6 B4
        go_wp2
        go_ret
        exact ⟨rfl, B6⟩

set_option maxRecDepth 100000 in
theorem lifted (os : Os) (started : os.Started) (H : Type) (enc : TypeId × Value → H) :
    ReturnsInHanded {} Try.checked os 6 .any (Rows.deltaFewSpec.pre6 enc Try.prog Try.f6 Rows.deltaFewRow.domain false) (Rows.deltaFewSpec.post enc Try.prog Try.f6 false true false false) := by
  refine returnsInHanded_of_change (C := Try.checked) own started (by kernel_rfl) Try.func6
    (ChangeSpec.witness6 (enc := enc) (C := Try.checked) false ⟨#[], #[.agg #[.int .i64 0, .int .i64 0, .int .i64 0], .int .u8 0], []⟩ 8 (by kernel_rfl) (by kernel_rfl) (by kernel_rfl) (by kernel_rfl)) ?_
  intro W base args ds gs before hval0 hW hcnd _
  have hval : ∀ (j : Nat) t v, Try.f6.params[j]? = some t → args[j]? = some v → Value.okWide Try.prog W .any base t v := hval0
  have hW' := hW
  obtain ⟨p, q, hA0, hV, rfl, hfz, hnd⟩ := hW
  have hA : DataW.TrodAll enc Try.prog W 0 (fun _ => true) true Try.f6.params.toList args.toList ds p := hA0
  rw [Try.params6] at hA hval
  obtain ⟨v0, vs0, d0, ds0, p0, q0, hargs, rfl, rfl, h0, r0⟩ := trodAll_cons hA
  obtain ⟨v1, vs1, d1, ds1, p1, q1, rfl, rfl, rfl, h1, r1⟩ := trodAll_cons r0
  obtain ⟨rfl, rfl, rfl⟩ := trodAll_nil r1
  obtain rfl : args = #[v0, v1] := by cases args; simp_all
  obtain ⟨rfl, rfl⟩ := trodVars_none hV
  have k0 := h0
  have lt0 : ∀ x ∈ p0, x.block < W.heap.size := by obtain ⟨m, hm⟩ := k0; exact DataW.trod_lt m _ _ _ hm
  obtain ⟨a0, rfl, w0⟩ := open_arr3 (hval 0 57 v0 rfl rfl) h0
  obtain ⟨a1, rfl, rfl, rfl, w1⟩ := open_int Try.underlying5 (hval 1 5 v1 rfl rfl) h1
  clear hA0 hval0
  refine (walk a0 a1 W w0 w1).mono fun e W' ⟨he, bel⟩ => ?_
  subst he
  exact ⟨_, rfl, _, _, _, [], _, [], hW', trodAll_mk1 (shut_bool Try.underlying4 _), (trodAll_cons_mk (Below.trod laidOut (by kernel_rfl) (of_decide_eq_true (by kernel_rfl)) k0 bel lt0) (trodAll_cons_mk (shut_int Try.underlying5 w1) trodAll_mk0)), rfl, bel.frame _, fun h => by cases h⟩

theorem over : Rows.deltaFewRow.holds Try.pinned (OpenSpec.ofChange Rows.deltaFewSpec) :=
  OpenClaim.holds_of_wide 6 Try.f6 rfl rfl rfl rfl rfl rfl rfl ⟨rfl, rfl, rfl, rfl, rfl⟩ rfl rfl rfl rfl rfl (by kernel_rfl) Try.func6 (by kernel_rfl)
    (of_decide_eq_true (by kernel_rfl)) (by unfold Func.isWrapper; first | (rw [if_pos (by decide +kernel)]; kernel_rfl) | (rw [if_neg (by decide +kernel)]; exact ⟨rfl, rfl⟩))
    (fun os started H enc _ => lifted os started H enc)

theorem proved : Rows.DeltaFewSaid := over
end deltaFew
theorem deltaFew_holds : Rows.DeltaFewSaid := deltaFew.proved
#print axioms deltaFew_holds
end Go.Proofs.Ytoanifeffegkiaa
