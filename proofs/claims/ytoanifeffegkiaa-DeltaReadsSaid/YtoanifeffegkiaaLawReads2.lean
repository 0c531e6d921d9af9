/-
  The statement 'DeltaReads' of layer 2: for every bytes and every counts, the numbers that are read one by one, and the samples, or what is wrong, are as the document says.
  No condition.
-/
import Derived.Test.YtoanifeffegkiaaDKnown
import Derived.Test.YtoanifeffegkiaaRDec
import Derived.ShutString
import Derived.ChangeOld
namespace Go.Proofs.Ytoanifeffegkiaa
namespace deltaReads
open Go.ChangeShapes Go.WideShapes Go.ChangeAt Go.RowKit
open Go.ChangeMaps (open_string shut_string)
set_option linter.unusedVariables false
set_option linter.unusedSimpArgs false

theorem own : ownKnob Try.prog.godebug = none := by kernel_rfl
theorem laidOut : laidOutB Try.prog = true := by kernel_rfl

def errOf : Except Int (List (Int × Int)) → Int
  | .error e => e
  | .ok _ => 0
def outOf : Except Int (List (Int × Int)) → List (Int × Int)
  | .error _ => []
  | .ok z => z
def DecQ (d : Except Int (List (Int × Int))) (w : World) (e : Ending) (w' : World) : Prop :=
  ∃ ad ln cp, e = .returned (.tuple #[.slice ad ln cp, .int .i64 (errOf d)]) ∧ SampAt w' ad ln cp (outOf d) ∧ (∀ x, ad = some x → w.heap.size ≤ x.block) ∧ Below w.heap.size w w'
theorem dec_q {n : Nat} {d : Except Int (List (Int × Int))} {w w' : World} {e : Ending} (h : DecP n d w e w') : DecQ d w e w' := by
  obtain ⟨hb, h⟩ := h
  cases d with
  | error er =>
    obtain ⟨_, rfl⟩ := h
    exact ⟨none, 0, 0, rfl, SampAt.nil _, by simp, hb⟩
  | ok out =>
    obtain ⟨ad, cp, rfl, hs, hbk⟩ := h
    exact ⟨ad, n, cp, rfl, hs, hbk, hb⟩

/-- What stands behind the first k bits lies in the same block. -/
theorem bslice_near {W : World} {a : Option Addr} {len cap : Nat} {bs : List Bool} (h : BoolsAt W a len bs) (hc : len ≤ cap) (k : Nat) (hk : k ≤ len) (P : Nat → Prop) (hP : ∀ x, a = some x → P x.block) :
    ∃ a', (∀ W' : World, (Instr.slice 31 (.slice a len cap) (some (.int .i64 (k : Int))) none none).run Try.prog W' = .ok (.slice a' (len - k) (cap - k)) W') ∧ BoolsAt W a' (len - k) (bs.drop k) ∧ len - k ≤ cap - k ∧ (∀ x, a' = some x → P x.block) := by
  obtain ⟨a', h1, h2, h3⟩ := bslice_from h hc k hk
  refine ⟨a', h1, h2, h3, fun x hx => ?_⟩
  have hs : ∀ W' : World, (sizeOf (Try.prog.elem 31)).run Try.prog W' = .ok 1 W' := fun W' => by kernel_rfl
  have hr := h1 W
  rw [run_slice_l W 31 _ _ _ (by kernel_rfl) .i64 (k : Int) (by omega) (by omega), hs] at hr
  simp only [Result.andThen, sliced, Int.toNat_natCast, Result.ok.injEq, Value.slice.injEq, and_true] at hr
  subst hx
  cases a with
  | none => simp at hr
  | some y =>
    have hy := hP y rfl
    by_cases hkc : cap = k
    · rw [if_pos hkc] at hr
      have := hr
      simp at this
      rw [← this]; exact hy
    · rw [if_neg hkc] at hr
      have := hr
      simp at this
      rw [← this]
      unfold Addr.add
      split <;> exact hy
theorem bools_keep {w w' : World} {a : Option Addr} {len r : Nat} {xs : List Bool} (h : BoolsAt w a len xs) (hg : w.grownBy w' (some r)) (hne : ∀ x, a = some x → x.block ≠ r) : BoolsAt w' a len xs := by
  refine ⟨h.1, ?_⟩
  rcases h.2 with h0 | ⟨b, off, rfl, hlt, hc⟩
  · exact .inl h0
  · have hb := hg.block b hlt (by simp; exact hne _ rfl)
    have hcell : ∀ o, w'.cell? ⟨b, o, none⟩ = w.cell? ⟨b, o, none⟩ := by intro o; simp [World.cell?, hb]
    exact .inr ⟨b, off, rfl, Nat.lt_of_lt_of_le hlt hg.size, fun i hi => by rw [hcell]; exact hc i hi⟩

set_option maxRecDepth 100000 in
set_option maxHeartbeats 4000000 in
theorem walk (s : ByteArray) (many n : Int) (w : World) (hs : s.size ≤ maxLen) (hmw : (Lit.int .i64 many).wf = true) (hnw : (Lit.int .i64 n).wf = true) :
    Calls Try.prog 4 #[.string s, .int .i64 many, .int .i64 n] w fun e w' => e = .returned (.bool true) ∧ Below w.heap.size w w' := by
  unfold maxLen at hs
  clear hmw hnw
  by_cases h200 : 200 < s.size
  · go_enter Try.func4, Try.ntmps4
    go_wp2_with fail
    refine (known_any _).mono ?_
    rintro e W4 ⟨rfl, b4⟩
    go_wp2
    go_ret
    exact ⟨rfl, b4⟩
  · by_cases hmb : many < 0 ∨ 8 * (s.size : Int) < many
    · have HMB := Lib.hid hmb
      clear hmb
      go_enter Try.func4, Try.ntmps4
      go_wp2_with fail
      refine (decode_arg s many n _ (by omega) (.inr (.inr HMB.out))).mono ?_
      rintro e w' ⟨rfl, rfl⟩
      go_wp2_with fail
      refine (read_bad s many _ (by omega) HMB.out).mono ?_
      rintro e w' ⟨rfl, rfl⟩
      go_wp2_with fail
      refine (known_any _).mono ?_
      rintro e W4 ⟨rfl, b4⟩
      go_wp2
      go_ret
      exact ⟨rfl, b4⟩
    · have hm0 : 0 ≤ many := by omega
      have hm1 : many ≤ 8 * (s.size : Int) := by omega
      clear hmb
      by_cases hn0 : n < 0
      · go_enter Try.func4, Try.ntmps4
        go_wp2_with fail
        refine (decode_arg s many n _ (by omega) (.inl hn0)).mono ?_
        rintro e w' ⟨rfl, rfl⟩
        go_wp2_with fail
        refine (read_okI s many _ (by omega) hm0 hm1).mono ?_
        rintro e W3 ⟨r, rfl, hr3, hr, b3⟩
        clear hr3
        go_wp2_with fail
        refine (known_any _).mono ?_
        rintro e W4 ⟨rfl, b4⟩
        have B4 := bel_gbn b3 b3.size (gb_below b4)
        clear b3 b4
        go_wp2
        go_ret
        exact ⟨rfl, B4⟩
      · by_cases hn1 : 100000 < n
        · go_enter Try.func4, Try.ntmps4
          go_wp2_with fail
          refine (decode_arg s many n _ (by omega) (.inr (.inl hn1))).mono ?_
          rintro e w' ⟨rfl, rfl⟩
          go_wp2_with fail
          refine (read_okI s many _ (by omega) hm0 hm1).mono ?_
          rintro e W3 ⟨r, rfl, hr3, hr, b3⟩
          clear hr3
          go_wp2_with fail
          refine (known_any _).mono ?_
          rintro e W4 ⟨rfl, b4⟩
          have B4 := bel_gbn b3 b3.size (gb_below b4)
          clear b3 b4
          go_wp2
          go_ret
          exact ⟨rfl, B4⟩
        · obtain ⟨n, rfl⟩ := Int.eq_ofNat_of_zero_le (show 0 ≤ n by omega)
          obtain ⟨k, rfl⟩ := Int.eq_ofNat_of_zero_le hm0
          have hdec := decode_any s (k : Int) (n : Int) w (by omega) (by omega) (by omega) hm0 hm1
          have hrd := fun W => read_okI s (k : Int) W (by omega) hm0 hm1
          have hof := fun W => of_any s k W (by omega) (by omega)
          simp only [Int.toNat_natCast] at hdec hrd
          have HBL := Lib.hid (bitsL_length s.data.toList k)
          have hk1600 : k ≤ 1600 := by omega
          have HRD := Lib.hid hrd
          have HOF := Lib.hid hof
          clear hrd hof
          generalize bitsL s.data.toList k = bs at *
          have hn2 : n ≤ 100000 := by omega
          have tn0 : ¬ ((n : Int) < 0) := by omega
          have tn1 : ¬ ((100000 : Int) < (n : Int)) := by omega
          go_enter Try.func4, Try.ntmps4
          go_wp2_with fail
          refine hdec.mono ?_
          intro e W2 h2
          obtain ⟨al, ll, cl, rfl, hl2, _, b2⟩ := dec_q h2
          clear h2 hdec
          go_wp2_with fail
          refine (HRD.out _).mono ?_
          rintro e W3 ⟨r, rfl, hr3, hrl, b3⟩
          have B3 := bel_gbn b2 b2.size (gb_below b3)
          have s3 := Nat.le_trans b2.size b3.size
          have hl3 := hl2.keep b3
          have hrw : w.heap.size ≤ r := Nat.le_trans b2.size hrl
          have hr3l := hr3.lt
          clear hl2 b2 b3 hrl
          go_wp2_with fail
          refine (HOF.out _).mono ?_
          rintro e W4 ⟨ab, cb, rfl, hcb, hb4, HBK, b4⟩
          have B4 := bel_gbn B3 s3 (gb_below b4)
          have s4 := Nat.le_trans s3 b4.size
          have hl4 := hl3.keep b4
          have hr4 := hr3.keep (gb_below (row := none) b4) (by simp)
          have HBN : Hid (∀ x, ab = some x → x.block ≠ r) := fun x hx => by have := HBK.out x hx; omega
          rw [HBL.out] at hcb hb4 ⊢
          clear hl3 hr3 B3 s3 b4 HBK hr3l
          go_wp2_with fail
          refine (rdecode_any ab k cb bs n _ hb4 hcb (by omega) hn2).mono ?_
          intro e W5 h5
          obtain ⟨am, lm, cm, rfl, hm5, _, b5⟩ := dec_q h5
          have B5 := bel_gbn B4 s4 (gb_below b5)
          have s5 := Nat.le_trans s4 b5.size
          have hl5 := hl4.keep b5
          have hr5 := hr4.keep (gb_below (row := none) b5) (by simp)
          have hb5 := hb4.keep b5
          clear h5 hl4 hr4 hb4 B4 s4 b5
          generalize outOf (decAll n bs) = zz at *
          generalize errOf (decAll n bs) = er at *
          have her : (er != er) = false := by simp
          go_wp2_with fail
          refine (same_any al am ll lm cl cm zz zz _ hl5 hm5).mono ?_
          rintro e W6 ⟨rfl, d6⟩
          rw [show decide (zz = zz) = true from by simp]
          have B6 := bel_gbn B5 s5 (d6.gb none)
          have s6 := Nat.le_trans s5 (d6.gb none).size
          have hr6 := hr5.keep (d6.gb none) (by simp)
          have hb6 := hb5.keep (gb_below_none (d6.gb none))
          clear hl5 hm5 hr5 hb5 B5 s5 d6
          go_wp2_with fail
          go_loopw [11, 14] (fun b i wr => ∃ (j q : Nat) (a' : Option Addr) (c' : Nat), j ≤ 30 ∧ q ≤ k ∧ i = .int .i64 (j : Int) ∧ b = .slice a' (k - q) c' ∧ k - q ≤ c' ∧ BoolsAt wr a' (k - q) (bs.drop q) ∧ Hid (∀ x, a' = some x → x.block ≠ r) ∧ RdAt wr r bs q ∧ Below w.heap.size w wr ∧ w.heap.size ≤ wr.heap.size) (fun _ i _ => 30 - (intOf i).toNat)
          case atStart => exact ⟨0, 0, ab, cb, by omega, by omega, rfl, rfl, hcb, hb6, HBN, hr6, B6, s6⟩
          case round =>
            obtain ⟨j, q, a', c', hj, hq, rfl, rfl, hc', hb7, HBN7, hr7, B7, s7⟩ := hrel
            clear hb6 hr6 B6 s6
            by_cases hj30 : j < 30
            · obtain ⟨u, m, eg, hg⟩ : ∃ u m eg, gets (bs.drop q) = (u, m, eg) := ⟨_, _, _, rfl⟩
              have hget := rget_any a' (k - q) c' (bs.drop q) wr hb7 hc' (by omega)
              rw [hg] at hget
              have hmk : m ≤ k - q := by
                rcases gets_err hg with h0 | h0
                · subst h0
                  have := (gets_ok hg).2.2.1
                  simp at this
                  have := HBL.out
                  omega
                · omega
              have HG := Lib.hid hg
              clear hg
              go_wp2_with fail
              refine hget.mono ?_
              clear hget
              rintro e W8 ⟨rfl, b8⟩
              simp only
              have B8 := bel_gbn B7 s7 (gb_below b8)
              have s8 := Nat.le_trans s7 b8.size
              have hr8 := hr7.keep (gb_below (row := none) b8) (by simp)
              have hb8 := hb7.keep b8
              clear hb7 hr7 B7 s7 b8
              go_wp2_with fail
              refine (dget_any r bs q u m eg _ hr8 HG.out).mono ?_
              rintro e W9 ⟨rfl, hr9, g9⟩
              have B9 := bel_gb B8 s8 hrw g9
              have s9 := Nat.le_trans s8 g9.size
              have hb9 := bools_keep hb8 g9 HBN7.out
              clear hb8 hr8 B8 s8 g9
              have huu : ((u : Int) != (u : Int)) = false := by simp
              have hee : (eg != eg) = false := by simp
              obtain ⟨a'', hsl, hb9', hc'', hbn⟩ := bslice_near hb9 hc' m hmk (fun b => b ≠ r) HBN7.out
              rw [List.drop_drop, show k - q - m = k - (q + m) from by omega] at hb9'
              rw [show k - q - m = k - (q + m) from by omega] at hsl hc''
              have HBN9 := Lib.hid hbn
              have HB9 := Lib.hid hb9'
              clear hbn hb9 hb9'
              go_wp2_with fail
              refine (left_any r bs (q + m) _ hr9).mono ?_
              rintro e W10 ⟨rfl, d10⟩
              have B10 := bel_gbn B9 s9 (d10.gb none)
              have s10 := Nat.le_trans s9 (d10.gb none).size
              have hr10 := hr9.keep (d10.gb none) (by simp)
              have hb10 := HB9.out.keep (gb_below_none (d10.gb none))
              rw [show ((bs.length : Int) - ((q + m : Nat) : Int)) = ((k - (q + m) : Nat) : Int) from by rw [HBL.out]; omega]
              have HB10 := Lib.hid hb10
              clear hr9 B9 s9 d10 hb10 HB9 hsl
              obtain ⟨L, hL⟩ : ∃ L, k - (q + m) = L := ⟨_, rfl⟩
              rw [hL]
              have hLL : ((L : Int) != (L : Int)) = false := by simp
              have HL := Lib.hid hL
              clear hL
              go_wp2
              go_roundw
              case rel => exact ⟨j + 1, q + m, a'', c' - m, by omega, by omega, by go_num, by rw [HL.out], hc'', HB10.out, HBN9, hr10, B10, s10⟩
              case measure => simp [intOf]; omega
            · obtain rfl : j = 30 := by omega
              go_wp2_with fail
              refine (known_any _).mono ?_
              rintro e W8 ⟨rfl, b8⟩
              have B8 := bel_gbn B7 s7 (gb_below b8)
              clear b8 B7
              go_wp2
              go_ret
              exact ⟨rfl, B8⟩

set_option maxRecDepth 100000 in
theorem lifted (os : Os) (started : os.Started) (H : Type) (enc : TypeId × Value → H) :
    ReturnsInHanded {} Try.checked os 4 .any (Rows.deltaReadsSpec.pre6 enc Try.prog Try.f4 Rows.deltaReadsRow.domain false) (Rows.deltaReadsSpec.post enc Try.prog Try.f4 false true false false) := by
  refine returnsInHanded_of_change (C := Try.checked) own started (by kernel_rfl) Try.func4
    (ChangeSpec.witness6 (enc := enc) (C := Try.checked) false ⟨#[], #[.string ByteArray.empty, .int .i64 0, .int .i64 0], []⟩ 8 (by kernel_rfl) (by kernel_rfl) (by kernel_rfl) (by kernel_rfl)) ?_
  intro W base args ds gs before hval0 hW hcnd _
  have hval : ∀ (j : Nat) t v, Try.f4.params[j]? = some t → args[j]? = some v → Value.okWide Try.prog W .any base t v := hval0
  have hW' := hW
  obtain ⟨p, q, hA0, hV, rfl, hfz, hnd⟩ := hW
  have hA : DataW.TrodAll enc Try.prog W 0 (fun _ => true) true Try.f4.params.toList args.toList ds p := hA0
  rw [Try.params4] at hA hval
  obtain ⟨v0, vs0, d0, ds0, p0, q0, hargs, rfl, rfl, h0, r0⟩ := trodAll_cons hA
  obtain ⟨v1, vs1, d1, ds1, p1, q1, rfl, rfl, rfl, h1, r1⟩ := trodAll_cons r0
  obtain ⟨v2, vs2, d2, ds2, p2, q2, rfl, rfl, rfl, h2, r2⟩ := trodAll_cons r1
  obtain ⟨rfl, rfl, rfl⟩ := trodAll_nil r2
  obtain rfl : args = #[v0, v1, v2] := by cases args; simp_all
  obtain ⟨rfl, rfl⟩ := trodVars_none hV
  obtain ⟨a0, rfl, rfl, rfl, w0⟩ := open_string Try.underlying9 (hval 0 9 v0 rfl rfl) h0
  obtain ⟨a1, rfl, rfl, rfl, w1⟩ := open_int Try.underlying3 (hval 1 3 v1 rfl rfl) h1
  obtain ⟨a2, rfl, rfl, rfl, w2⟩ := open_int Try.underlying3 (hval 2 3 v2 rfl rfl) h2
  clear hA0 hval0
  refine (walk a0 a1 a2 W w0 w1 w2).mono fun e W' ⟨he, bel⟩ => ?_
  subst he
  exact ⟨_, rfl, _, _, _, [], _, [], hW', trodAll_mk1 (shut_bool Try.underlying4 _), (trodAll_cons_mk (shut_string Try.underlying9 w0) (trodAll_cons_mk (shut_int Try.underlying3 w1) (trodAll_cons_mk (shut_int Try.underlying3 w2) trodAll_mk0))), rfl, bel.frame _, fun h => by cases h⟩

theorem over : Rows.deltaReadsRow.holds Try.pinned (OpenSpec.ofChange Rows.deltaReadsSpec) :=
  OpenClaim.holds_of_wide 4 Try.f4 rfl rfl rfl rfl rfl rfl rfl ⟨rfl, rfl, rfl, rfl, rfl⟩ rfl rfl rfl rfl rfl (by kernel_rfl) Try.func4 (by kernel_rfl)
    (of_decide_eq_true (by kernel_rfl)) (by unfold Func.isWrapper; first | (rw [if_pos (by decide +kernel)]; kernel_rfl) | (rw [if_neg (by decide +kernel)]; exact ⟨rfl, rfl⟩))
    (fun os started H enc _ => lifted os started H enc)

theorem proved : Rows.DeltaReadsSaid := over
end deltaReads
theorem deltaReads_holds : Rows.DeltaReadsSaid := deltaReads.proved
#print axioms deltaReads_holds
end Go.Proofs.Ytoanifeffegkiaa
