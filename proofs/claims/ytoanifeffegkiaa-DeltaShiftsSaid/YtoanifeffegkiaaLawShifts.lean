/-
  The statement 'DeltaShifts' of layer 2: for every samples, samples that are all later, or all more, by the same, need as many bits.
  No condition.
-/
import Derived.Test.YtoanifeffegkiaaDKnown
import Derived.ShutString
import Derived.Deep.AppendLies
import Derived.ChangeOld
namespace Go.Proofs.Ytoanifeffegkiaa
namespace deltaShifts
open Go.ChangeShapes Go.WideShapes Go.ChangeAt Go.RowKit
set_option linter.unusedVariables false
set_option linter.unusedSimpArgs false

theorem own : ownKnob Try.prog.godebug = none := by kernel_rfl
theorem laidOut : laidOutB Try.prog = true := by kernel_rfl

def shift (z : List (Int × Int)) (t v : Int) : List (Int × Int) := z.map fun x => (wrap64 (x.1 + t), wrap64 (x.2 + v))
theorem shift_at (z : List (Int × Int)) (t v : Int) (i : Nat) (h : i < z.length) : tOf (shift z t v) i = wrap64 (tOf z i + t) ∧ vOf (shift z t v) i = wrap64 (vOf z i + v) := by
  unfold tOf vOf shift
  simp [List.getD_eq_getElem?_getD, List.getElem?_eq_getElem h]
theorem wrap_diff (a b t : Int) : wrap64 (wrap64 (a + t) - wrap64 (b + t)) = wrap64 (a - b) := by unfold wrap64; omega
theorem shift_step (z : List (Int × Int)) (t v : Int) (i : Nat) (h : i < z.length) : stepOf (shift z t v) i = stepOf z i := by
  cases i with
  | zero => rfl
  | succ i => rw [stepOf, stepOf, (shift_at z t v (i + 1) h).1, (shift_at z t v i (by omega)).1, wrap_diff]
theorem shift_len (z : List (Int × Int)) (t v : Int) (j : Nat) (h : j ≤ z.length) : (encTo (shift z t v) j).length = (encTo z j).length := by
  induction j with
  | zero => rfl
  | succ j ih =>
    rw [encTo, encTo, List.length_append, List.length_append, ih (by omega), piece_length, piece_length]
    congr 1
    split
    · rfl
    · rename_i hj
      obtain ⟨i, rfl⟩ : ∃ i, j = i + 1 := ⟨j - 1, by omega⟩
      rw [Nat.add_sub_cancel]
      have h1 : tNum (shift z t v) i = tNum z i := by rw [tNum, tNum, shift_step z t v (i + 1) h, shift_step z t v i (by omega)]
      have h2 : vNum (shift z t v) i = vNum z i := by rw [vNum, vNum, (shift_at z t v (i + 1) h).2, (shift_at z t v i (by omega)).2, wrap_diff]
      rw [h1, h2]
theorem shift_take (z : List (Int × Int)) (t v : Int) (j : Nat) (h : j < z.length) : shift (z.take (j + 1)) t v = shift (z.take j) t v ++ [(wrap64 (tOf z j + t), wrap64 (vOf z j + v))] := by
  rw [List.take_succ_eq_append_getElem h]
  unfold shift tOf vOf
  rw [List.map_append, List.getD_eq_getElem?_getD, List.getElem?_eq_getElem h]
  rfl
theorem shift_all (z : List (Int × Int)) (t v : Int) : All64 (shift z t v) := by
  intro x hx
  simp [shift] at hx
  obtain ⟨a, b, _, rfl⟩ := hx
  exact ⟨wrap64_in64 _, wrap64_in64 _⟩
theorem shift_length (z : List (Int × Int)) (t v : Int) : (shift z t v).length = z.length := by simp [shift]

set_option maxRecDepth 100000 in
set_option maxHeartbeats 2000000 in
theorem walk (a : Option Addr) (len cap : Nat) (z : List (Int × Int)) (t v : Int) (w : World) (hz : SampAt w a len cap z) (ht : (Lit.int .i64 t).wf = true) (hv : (Lit.int .i64 v).wf = true) :
    Calls Try.prog 9 #[.slice a len cap, .int .i64 t, .int .i64 v] w fun e w' => e = .returned (.bool true) ∧ Below w.heap.size w w' := by
  have hlen := hz.2.2.1
  by_cases h60 : 60 < len
  · go_enter Try.func9, Try.ntmps9
    go_wp2_with fail
    refine (known_any _).mono ?_
    rintro e W4 ⟨rfl, b4⟩
    go_wp2
    go_ret
    exact ⟨rfl, b4⟩
  · have hl := hz.1
    have HL := Lib.hid hl
    have HZ := Lib.hid hz
    clear hl hz ht hv
    obtain ⟨i0, hi, hz0, hz1, hz2⟩ := info_parts info_samp
    go_enter Try.func9, Try.ntmps9
    go_wp2
    go_loopw [7, 8] (fun m i wr => ∃ j : Nat, j ≤ len ∧ i = .int .i64 (j : Int) ∧ wr.ownsRow w.heap.size 59 2 m j (smpCells (shift (z.take j) t v)) ∧ Below w.heap.size w wr) (fun _ i _ => len - (intOf i).toNat)
    case atStart => exact ⟨0, Nat.zero_le _, rfl, World.ownsRow_nil _ _ _ _, Below.refl _ _⟩
    case round =>
      obtain ⟨j, hj, rfl, hown, B2⟩ := hrel
      have s2 := B2.size
      by_cases hjl : j < len
      · obtain ⟨b, off, rfl, hb, c0, c1⟩ := HZ.out.at_ j hjl
        rw [← B2.cell hb] at c0 c1
        have HT := Lib.hid (shift_take z t v j (by rw [HL.out]; exact hjl))
        generalize tOf z j = T at *
        generalize vOf z j = V at *
        have hj0 : (0 : Int) ≤ (j : Int) := by omega
        have hj1 : (j : Int) < (len : Int) := by omega
        obtain ⟨xt, hxt⟩ : ∃ xt, IntKind.i64.wrap (T + t) = xt := ⟨_, rfl⟩
        obtain ⟨xv, hxv⟩ : ∃ xv, IntKind.i64.wrap (V + v) = xv := ⟨_, rfl⟩
        rw [← IntWalk.i64_left, ← IntWalk.i64_left, hxt, hxv] at HT
        have HON : Hid (∀ u ∈ [Value.int .i64 xt, Value.int .i64 xv], u.oneCell' = true) := by
          intro u hu
          simp at hu
          rcases hu with rfl | rfl <;> rfl
        have hne : u7.ownBlock ≠ some b := by intro e; have := hown.lt b e; omega
        go_wp2_with fail
        go_region_held3 (fun w' => w'.cell? ⟨b, off + j * 2, none⟩ = some (.int .i64 T) ∧ w'.cell? ⟨b, off + j * 2 + 1, none⟩ = some (.int .i64 V))
          (first
            | go_keep
            | (go_split_ands
               refine ⟨?_, ?_⟩
               · (rw [hgrow.cell_far _ (by simp; omega) (Ne.symm hne)]; assumption)
               · (rw [hgrow.cell_far _ (by simp; omega) (Ne.symm hne)]; assumption)))
          ((refine step_append_lies _ (by rfl) _ _ _ (by rfl) w.heap.size 59 i0 _ 2 16 Try.underlying23 hi hz0 hz1 hz2 rfl (by omega) u7 j _ (by rfl) ((hown.alloc _).drew)
              ⟨wr.heap.size, 0, none⟩ 1 1 [.int .i64 xt, .int .i64 xv] (by rfl) (by rfl) (World.news_of_block (cs := #[.int .i64 xt, .int .i64 xv]) (t := 59) (fr := (0, 0)) (heap_alloc_new wr _)) HON.out
              (by omega) (by unfold maxLen; omega) (by omega) (by simp; omega) (wr.heap.size + 1) (by simp) ?_; intro gg cp8 w8 ho8 hgrow hat hlt))
        have B8 := ((B2.alloc s2 (.cells #[.int .i64 xt, .int .i64 xv] 59)).drew).grown hgrow (by simp; omega) (fun k hk => (hown.lt k hk).1)
        clear hown hgrow B2 s2 c0 c1 hat hlt hxt hxv hne
        go_wp2
        go_roundw
        case rel => exact ⟨j + 1, by omega, by go_num, by rw [HT.out, smpCells_snoc]; exact ho8, B8⟩
        case measure => simp [intOf]; omega
      · obtain rfl : j = len := by omega
        have htk : z.take j = z := List.take_of_length_le (by rw [HL.out]; exact Nat.le_refl _)
        rw [htk] at hown
        have HSL := Lib.hid (show (shift z t v).length = j from by rw [shift_length, HL.out])
        have hown' : wr.ownsRow w.heap.size 59 2 u7 (shift z t v).length (smpCells (shift z t v)) := by rw [HSL.out]; exact hown
        obtain ⟨ad, cp, rfl, hm, _⟩ := owns_samps (shift_all z t v) (by rw [HSL.out]; omega) hown'
        rw [HSL.out] at hm ⊢
        have hz3 := HZ.out.keep B2
        have HE := Lib.hid (shift_len z t v j (by rw [HL.out]; exact Nat.le_refl _))
        clear hown hown' htk hi hz0 hz1 hz2
        go_wp2_with fail
        refine (dbits_any a j cap z _ hz3 (by omega)).mono ?_
        rintro e W4 ⟨rfl, b4⟩
        have B4 := bel_gbn B2 s2 (gb_below b4)
        have s4 := Nat.le_trans s2 b4.size
        have hm4 := hm.keep b4
        clear b4 B2 hm hz3
        go_wp2_with fail
        refine (dbits_any ad j cp _ _ hm4 (by omega)).mono ?_
        rintro e W5 ⟨rfl, b5⟩
        have B5 := bel_gbn B4 s4 (gb_below b5)
        have s5 := Nat.le_trans s4 b5.size
        rw [HE.out]
        clear b5 B4 hm4 s4
        generalize (encTo z j).length = L at *
        go_wp2_with fail
        refine (known_any _).mono ?_
        rintro e W6 ⟨rfl, b6⟩
        have B6 := bel_gbn B5 s5 (gb_below b6)
        clear b6 B5
        go_wp2
        go_ret
        exact ⟨rfl, B6⟩

set_option maxRecDepth 100000 in
theorem lifted (os : Os) (started : os.Started) (H : Type) (enc : TypeId × Value → H) :
    ReturnsInHanded {} Try.checked os 9 .any (Rows.deltaShiftsSpec.pre6 enc Try.prog Try.f9 Rows.deltaShiftsRow.domain false) (Rows.deltaShiftsSpec.post enc Try.prog Try.f9 false true false false) := by
  refine returnsInHanded_of_change (C := Try.checked) own started (by kernel_rfl) Try.func9
    (ChangeSpec.witness6 (enc := enc) (C := Try.checked) false ⟨#[], #[.slice none 0 0, .int .i64 0, .int .i64 0], []⟩ 8 (by kernel_rfl) (by kernel_rfl) (by kernel_rfl) (by kernel_rfl)) ?_
  intro W base args ds gs before hval0 hW hcnd _
  have hval : ∀ (j : Nat) t v, Try.f9.params[j]? = some t → args[j]? = some v → Value.okWide Try.prog W .any base t v := hval0
  have hW' := hW
  obtain ⟨p, q, hA0, hV, rfl, hfz, hnd⟩ := hW
  have hA : DataW.TrodAll enc Try.prog W 0 (fun _ => true) true Try.f9.params.toList args.toList ds p := hA0
  rw [Try.params9] at hA hval
  obtain ⟨v0, vs0, d0, ds0, p0, q0, hargs, rfl, rfl, h0, r0⟩ := trodAll_cons hA
  obtain ⟨v1, vs1, d1, ds1, p1, q1, rfl, rfl, rfl, h1, r1⟩ := trodAll_cons r0
  obtain ⟨v2, vs2, d2, ds2, p2, q2, rfl, rfl, rfl, h2, r2⟩ := trodAll_cons r1
  obtain ⟨rfl, rfl, rfl⟩ := trodAll_nil r2
  obtain rfl : args = #[v0, v1, v2] := by cases args; simp_all
  obtain ⟨rfl, rfl⟩ := trodVars_none hV
  obtain ⟨a0, len0, cap0, rfl⟩ := okWide_slice Try.underlying23 (hval 0 23 v0 rfl rfl)
  have k0 := h0
  have lt0 : ∀ x ∈ p0, x.block < W.heap.size := by obtain ⟨m, hm⟩ := k0; exact DataW.trod_lt m _ _ _ hm
  obtain ⟨z0, w0⟩ := open_samps h0
  obtain ⟨a1, rfl, rfl, rfl, w1⟩ := open_int Try.underlying3 (hval 1 3 v1 rfl rfl) h1
  obtain ⟨a2, rfl, rfl, rfl, w2⟩ := open_int Try.underlying3 (hval 2 3 v2 rfl rfl) h2
  clear hA0 hval0
  refine (walk a0 len0 cap0 z0 a1 a2 W w0 w1 w2).mono fun e W' ⟨he, bel⟩ => ?_
  subst he
  exact ⟨_, rfl, _, _, _, [], _, [], hW', trodAll_mk1 (shut_bool Try.underlying4 _), (trodAll_cons_mk (Below.trod laidOut (by kernel_rfl) (of_decide_eq_true (by kernel_rfl)) k0 bel lt0) (trodAll_cons_mk (shut_int Try.underlying3 w1) (trodAll_cons_mk (shut_int Try.underlying3 w2) trodAll_mk0))), rfl, bel.frame _, fun h => by cases h⟩

theorem over : Rows.deltaShiftsRow.holds Try.pinned (OpenSpec.ofChange Rows.deltaShiftsSpec) :=
  OpenClaim.holds_of_wide 9 Try.f9 rfl rfl rfl rfl rfl rfl rfl ⟨rfl, rfl, rfl, rfl, rfl⟩ rfl rfl rfl rfl rfl (by kernel_rfl) Try.func9 (by kernel_rfl)
    (of_decide_eq_true (by kernel_rfl)) (by unfold Func.isWrapper; first | (rw [if_pos (by decide +kernel)]; kernel_rfl) | (rw [if_neg (by decide +kernel)]; exact ⟨rfl, rfl⟩))
    (fun os started H enc _ => lifted os started H enc)

theorem proved : Rows.DeltaShiftsSaid := over
end deltaShifts
theorem deltaShifts_holds : Rows.DeltaShiftsSaid := deltaShifts.proved
#print axioms deltaShifts_holds
end Go.Proofs.Ytoanifeffegkiaa
