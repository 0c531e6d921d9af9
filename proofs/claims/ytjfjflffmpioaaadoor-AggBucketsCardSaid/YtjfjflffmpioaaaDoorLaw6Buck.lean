/-
  The statement 'AggBuckets' of layer 6: what each bucket's samples make, of any samples, is as the document says.
  No condition on the arguments; the tables (the kinds' names, and Go's own for texts) are as the program's text lays them (the card ties that).
-/
import Derived.Test.YtjfjflffmpioaaaDoorAKnown
import Derived.Test.YtjfjflffmpioaaaDoorALaid
import Derived.Test.YtjfjflffmpioaaaDoorTie
import Derived.Test.YtjfjflffmpioaaaDoorCards
import Derived.Test.YtjfjflffmpioaaaDoorARBuck
import Derived.ShutString
import Derived.ChangeOld
import Derived.SevenTiedAt
import Derived.Deep.RegionHeld3
import Derived.BigRegion
namespace Go.Proofs.YtjfjflffmpioaaaDoor
namespace aggBuckets
open Go.ChangeShapes Go.WideShapes Go.ChangeAt Go.RowKit
open Go.ChangeMaps (open_string shut_string)
set_option linter.unusedVariables false
set_option linter.unusedSimpArgs false

theorem own : ownKnob Tryd.prog.godebug = none := by kernel_rfl

theorem laidOut : laidOutB Tryd.prog = true := by kernel_rfl
theorem trod_two {H : Type} {enc : TypeId × Value → H} {P : Program} {w : World} {base : Nat} {spare : Nat → Bool} {held : Bool} {t e : TypeId} {fuel : Nat} {c0 c1 : Value} {x : DataW H × List MemPlace} (ht : P.underlying t = some (.array 2 e)) (hce : P.cellsOf e = 1)
    (h : DataW.trod enc P w base spare held fuel t [c0, c1] = some x) :
    ∃ y0 y1 n, DataW.trod enc P w base spare held n e [c0] = some y0 ∧ DataW.trod enc P w base spare held n e [c1] = some y1 := by
  cases fuel with
  | zero => simp [DataW.trod] at h
  | succ n =>
    unfold DataW.trod at h
    rw [ht] at h
    have r2 : List.range 2 = [0, 1] := rfl
    simp [r2, hce] at h
    obtain ⟨_, h⟩ := h
    cases h0 : DataW.trod enc P w base spare held n e [c0] with
    | none => simp [h0] at h
    | some y0 =>
      cases h1 : DataW.trod enc P w base spare held n e [c1] with
      | none => simp [h0, h1] at h
      | some y1 => exact ⟨y0, y1, n, h0, h1⟩
set_option maxRecDepth 100000 in
theorem open_arr2 {H : Type} {enc : TypeId × Value → H} {W : World} {r : Reach} {b0 : Nat} {v : Value} {d : DataW H} {p : List MemPlace}
    (hv : Value.okWide Tryd.prog W r b0 43 v) (h : DataW.Trod enc Tryd.prog W 0 (fun _ => true) true 43 v d p) :
    ∃ z : Int × Int, v = .agg #[.int .i64 z.1, .int .i64 z.2] ∧ in64 z.1 ∧ in64 z.2 := by
  simp only [Value.okWide, Tryd.underlying43] at hv
  obtain ⟨cs, rfl, hsz, _⟩ := hv
  have hc : cs.size = 2 := hsz.trans (by kernel_rfl)
  obtain ⟨l⟩ := cs
  match l, hc with
  | [c0, c1], _ =>
    obtain ⟨fuel, hf⟩ := h
    obtain ⟨y0, y1, n, h0, h1⟩ := trod_two Tryd.underlying43 (by kernel_rfl) hf
    obtain ⟨n0, e0, _, w0⟩ := DataW.trod_int Tryd.underlying3 h0
    obtain ⟨n1, e1, _, w1⟩ := DataW.trod_int Tryd.underlying3 h1
    simp at e0 e1
    subst e0 e1
    exact ⟨(n0, n1), rfl, bounds_i64 w0, bounds_i64 w1⟩

theorem buck64 {k size align : Int} {z : List (Int × Int)} (h : All64 z) (hl : z.length < 4611686018427387904) : All64 (buckA k size align z) := by
  intro x hx
  unfold buckA at hx
  split at hx
  · unfold buckL at hx
    obtain ⟨g, hg, rfl⟩ := List.mem_map.1 hx
    obtain ⟨h1, h2⟩ := groups_mem hg
    obtain ⟨u, hu⟩ := List.exists_mem_of_ne_nil _ h1
    have hs := (h2 u hu).2
    have hin := startB_in (t := u.1) (size := size) (align := align)
    rw [hs] at hin
    refine ⟨by unfold in64; simp only; omega, ?_⟩
    refine valK_in (fun e => h1 ((valsOf_nil _).1 e)) (vals64 (fun v hv => h v (h2 v hv).1)) ?_
    rw [valsOf_len]
    have : g.2.length ≤ z.length := by
      have hf := grp_flat (fun t => startB t size align) z
      have h3 : g.2.length ≤ (((grp (fun t => startB t size align) z).map (·.2)).flatten).length := by
        obtain ⟨s, t, e⟩ := List.append_of_mem (show g ∈ grp (fun t => startB t size align) z from hg)
        rw [e]
        simp
        omega
      rw [hf] at h3
      exact h3
    omega
  · cases hx
theorem buckA_few (k size align : Int) (z : List (Int × Int)) : (buckA k size align z).length ≤ z.length := by
  unfold buckA
  split
  · exact buck_few _ _ _ _
  · simp
theorem same_true (a1 a2 : Option Addr) (n1 n2 c1 c2 : Nat) (x : List (Int × Int)) (w : World) (hx : SampAt w a1 n1 c1 x) (hy : SampAt w a2 n2 c2 x) :
    Calls Tryd.prog 27 #[.slice a1 n1 c1, .slice a2 n2 c2] w fun e w' => e = .returned (.bool true) ∧ Below w.heap.size w w' := by
  refine (same_any a1 a2 n1 n2 c1 c2 x x w hx hy).mono ?_
  rintro e w' ⟨rfl, d⟩
  exact ⟨by rw [decide_eq_true rfl], d.below⟩

set_option maxRecDepth 100000 in
set_option maxHeartbeats 4000000 in
theorem walk0 (k : Int) (x : Int × Int) (a : Option Addr) (len cap : Nat) (z : List (Int × Int)) (w : World) (h : ANamesAt w) (hx : in64 x.1 ∧ in64 x.2) (hz : SampAt w a len cap z) :
    Calls Tryd.prog 5 #[.int .i64 k, .agg #[.int .i64 x.1, .int .i64 x.2], .slice a len cap] w fun e w' => e = .returned (.bool true) ∧ Below w.heap.size w w' := by
  obtain ⟨x0, x1⟩ := x
  simp only
  have H := Lib.hid h
  have HZ := Lib.hid hz
  have hlen := hz.2.2.1
  have B0 := (Below.refl w.heap.size w).alloc (Nat.le_refl _) (.cells #[.int .i64 x0, .int .i64 x1] 43)
  have hn0 := heap_new w (.cells #[.int .i64 x0, .int .i64 x1] 43)
  clear h hx hz
  by_cases hl : 80 < len
  · have hl' : (80 : Int) < (len : Int) := by omega
    go_enter Tryd.func5, Tryd.ntmps5
    go_wp2_with fail
    refine (aknown_any _ (H.out.below B0)).mono ?_
    rintro e W2 ⟨rfl, b2⟩
    have B2 := bel_gbn B0 B0.size (gb_below b2)
    go_wp2
    go_ret
    exact ⟨rfl, B2⟩
  · have hl' : ¬ (80 : Int) < (len : Int) := by omega
    go_enter Tryd.func5, Tryd.ntmps5
    go_wp2_with fail
    have hq : w.heap.size < (w.alloc (.cells #[.int .i64 x0, .int .i64 x1] 43)).heap.size := by simp
    have s0 := B0.size
    generalize w.alloc (.cells #[.int .i64 x0, .int .i64 x1] 43) = W0 at *
    have HC := Lib.hid (show ∀ W, Below W0.heap.size W0 W → W.cell? ⟨w.heap.size, 0, none⟩ = some (.int .i64 x0) ∧ W.cell? ⟨w.heap.size, 1, none⟩ = some (.int .i64 x1) from fun W hW => ⟨by rw [hW.cell hq, cell_of hn0]; rfl, by rw [hW.cell hq, cell_of hn0]; rfl⟩)
    have HSP := Lib.hid (show ∀ W, Below W0.heap.size W0 W → SampAt W a len cap z from fun W hW => (HZ.out.keep B0).keep hW)
    have HNA := Lib.hid (show ∀ W, Below W0.heap.size W0 W → ANamesAt W from fun W hW => (H.out.below B0).below hW)
    have BD := Lib.hid ((Below.refl W0.heap.size W0).drew)
    have c0 : W0.cell? ⟨w.heap.size, 0, none⟩ = some (.int .i64 x0) := (HC.out _ (Below.refl _ _)).1
    have c1 : W0.cell? ⟨w.heap.size, 1, none⟩ = some (.int .i64 x1) := (HC.out _ (Below.refl _ _)).2
    have HL := Lib.hid (show len ≤ 80 by omega)
    have HB64 := Lib.hid (buck64 (k := k) (size := x0) (align := x1) HZ.out.2.2.2.1 (by rw [HZ.out.1]; omega))
    have HBL := Lib.hid (show (buckA k x0 x1 z).length ≤ 9223372036854775807 from Nat.le_trans (buckA_few _ _ _ _) (by rw [HZ.out.1]; exact hlen))
    have hk0 : in64 0 := by unfold in64; omega
    clear hn0 hl hlen hk0
    generalize hqe : w.heap.size = q at *
    have HQ := Lib.hid hqe
    clear hqe
    go_region_held3 (fun w' => w'.cell? ⟨q, 0, none⟩ = some (.int .i64 x0) ∧ w'.cell? ⟨q, 1, none⟩ = some (.int .i64 x1))
      (first
        | exact HC.out _ B4.out
        | exact HC.out _ B3.out
        | exact HC.out _ B2.out
        | exact HC.out _ B1.out
        | exact HC.out _ BD.out
        | go_keep
        | fail)
      (first
        | (go_at_call 28
           (with_reducible refine (buckets_any k x0 x1 a len cap z _ (HSP.out _ BD.out) (by have := HL.out; omega)).mono ?_)
           rintro e W1 ⟨v1, rfl, o1, b1⟩
           have B1 := Lib.hid (BD.out.trans (b1.mono BD.out.size))
           obtain ⟨ad1, cp1, rfl, L1⟩ := row_samp HB64.out HBL.out o1
           have HL1 := Lib.hid L1
           clear o1 b1 L1)
        | (go_at_call 29
           (with_reducible refine (rbuckets_any k x0 x1 a len cap z _ (HSP.out _ B1.out) (by have := HL.out; omega)).mono ?_)
           rintro e W2 ⟨v2, rfl, o2, b2⟩
           have B2 := Lib.hid (B1.out.trans (b2.mono B1.out.size))
           have HM1 := Lib.hid (HL1.out.keep b2)
           obtain ⟨ad2, cp2, rfl, L2⟩ := row_samp HB64.out HBL.out o2
           have HL2 := Lib.hid L2
           clear o2 b2 L2)
        | (go_at_call 27
           (with_reducible refine (same_true _ _ _ _ _ _ _ _ HM1.out HL2.out).mono ?_)
           rintro e W3 ⟨rfl, b3⟩
           have B3 := Lib.hid (B2.out.trans (b3.mono B2.out.size))
           clear b3)
        | (go_at_call 11
           (with_reducible refine (aknown_any _ (HNA.out _ B3.out)).mono ?_)
           rintro e W4 ⟨rfl, b4⟩
           have B4 := Lib.hid (B3.out.trans (b4.mono B3.out.size))
           clear b4)
        | fail)
    all_goals
      go_wp2
      go_ret
      refine ⟨rfl, ?_⟩
      have hB : Below q w W0 := B0
      have := hB.trans (B4.out.mono s0)
      first | exact this | (rw [HQ.out]; exact this)

theorem walk (a0 : Int) (a1 : Int × Int) (a2 : Option Addr) (len2 cap2 : Nat) (z2 : List (Int × Int)) (w : World) (h : ANamesAt w) (w0 : (Lit.int .i64 a0).wf = true) (w1 : in64 a1.1 ∧ in64 a1.2) (w2 : SampAt w a2 len2 cap2 z2) :
    Calls Tryd.prog 5 #[.int .i64 a0, .agg #[.int .i64 a1.1, .int .i64 a1.2], .slice a2 len2 cap2] w fun e w' => e = .returned (.bool true) ∧ Below w.heap.size w w' := walk0 a0 a1 a2 len2 cap2 z2 w h w1 w2

set_option maxRecDepth 100000 in
theorem lifted (os : Os) (started : os.Started) (H : Type) (enc : TypeId × Value → H) :
    ReturnsInHanded {} Tryd.checked os 5 .any (fun w args => (Rows.aggBucketsSpec.pre enc Tryd.prog Tryd.f5 [] false w args ∧ laidMetH Tryd.prog laidL w) ∧ sizedMet enc Tryd.prog Tryd.f5 (OpenSpec.ofChange Rows.aggBucketsSpec) false w args)
      (Rows.aggBucketsSpec.post enc Tryd.prog Tryd.f5 false true false false) := by
  refine returnsInHanded_of_change_and (C := Tryd.checked) (X := fun w _ => laidMetH Tryd.prog laidL w) (fun _ _ _ hh h => h.of_heap hh) own started (by kernel_rfl) Tryd.func5
    (ChangeSpec.witness_shaped (enc := enc) (C := Tryd.checked) (os := os) (X := fun w _ => laidMetH Tryd.prog laidL w) false (World.laidAll Tryd.prog os laidL) #[.int .i64 0, .agg #[.int .i64 0, .int .i64 0], .slice none 0 0] 8 (World.laidAll_os _ _ _) (door_shape os _) (by kernel_rfl) (by kernel_rfl) (by kernel_rfl) (door_met os _)) ?_
  intro W base args ds gs before hval0 hW _ _ hL _
  have hval : ∀ (j : Nat) t v, Tryd.f5.params[j]? = some t → args[j]? = some v → Value.okWide Tryd.prog W .any base t v := hval0
  have hW' := hW
  obtain ⟨p, q, hA0, hV, rfl, hfz, hnd⟩ := hW
  have hA : DataW.TrodAll enc Tryd.prog W 0 (fun _ => true) true Tryd.f5.params.toList args.toList ds p := hA0
  rw [Tryd.params5] at hA hval
  obtain ⟨v0, vs0, d0, ds0, p0, q0, hargs, rfl, rfl, h0, r0⟩ := trodAll_cons hA
  obtain ⟨v1, vs1, d1, ds1, p1, q1, rfl, rfl, rfl, h1, r1⟩ := trodAll_cons r0
  obtain ⟨v2, vs2, d2, ds2, p2, q2, rfl, rfl, rfl, h2, r2⟩ := trodAll_cons r1
  obtain ⟨rfl, rfl, rfl⟩ := trodAll_nil r2
  obtain rfl : args = #[v0, v1, v2] := by cases args; simp_all
  obtain ⟨rfl, rfl⟩ := trodVars_none hV
  obtain ⟨a0, rfl, rfl, rfl, w0⟩ := open_int Tryd.underlying3 (hval 0 3 v0 rfl rfl) h0
  have k1 := h1
  have lt1 : ∀ x ∈ p1, x.block < W.heap.size := by obtain ⟨m, hm⟩ := k1; exact DataW.trod_lt m _ _ _ hm
  obtain ⟨a1, rfl, w1⟩ := open_arr2 (hval 1 43 v1 rfl rfl) h1
  obtain ⟨a2, len2, cap2, rfl⟩ := okWide_slice Tryd.underlying31 (hval 2 31 v2 rfl rfl)
  have k2 := h2
  have lt2 : ∀ x ∈ p2, x.block < W.heap.size := by obtain ⟨m, hm⟩ := k2; exact DataW.trod_lt m _ _ _ hm
  obtain ⟨z2, w2⟩ := open_samps h2
  clear hA0 hval0
  refine (walk a0 a1 a2 len2 cap2 z2 W (names_of_laid hL) w0 w1 w2).mono fun e W' ⟨he, bel⟩ => ?_
  subst he
  exact ⟨_, rfl, _, _, _, [], _, [], hW', trodAll_mk1 (shut_bool Tryd.underlying4 _), (trodAll_cons_mk (shut_int Tryd.underlying3 w0) (trodAll_cons_mk (Below.trod laidOut (by kernel_rfl) (of_decide_eq_true (by kernel_rfl)) k1 bel lt1) (trodAll_cons_mk (Below.trod laidOut (by kernel_rfl) (of_decide_eq_true (by kernel_rfl)) k2 bel lt2) trodAll_mk0))), rfl, bel.frame _, fun h => by cases h⟩

theorem over : Rows.aggBucketsRow.holds Tryd.pinned (OpenSpec.ofChange Rows.aggBucketsSpec) :=
  OpenClaim.holds_of_wide 5 Tryd.f5 rfl rfl rfl rfl rfl rfl rfl ⟨rfl, rfl, rfl, rfl, rfl⟩ rfl rfl rfl rfl rfl (by kernel_rfl) Tryd.func5 (by kernel_rfl)
    (of_decide_eq_true (by kernel_rfl)) (by unfold Func.isWrapper; first | (rw [if_pos (by decide +kernel)]; kernel_rfl) | (rw [if_neg (by decide +kernel)]; exact ⟨rfl, rfl⟩))
    (fun os started H enc _ => lifted os started H enc)

theorem proved : Rows.AggBucketsCardSaid :=
  Claim7.holds_tied_plain_at .later [] Rows.aggBucketsCard.laidKinds true Rows.aggBucketsCard.stood.harness false
    over (fun _ h => by cases h) (by kernel_rfl) (fun _ h => by cases h) aggBuckets_row_tie rfl ⟨rfl, rfl⟩ (by kernel_rfl) rfl
    (fun f fn hf hfn => by
      obtain rfl : f = 5 := Option.some.inj ((show Tryd.prog.funcNamed "tachograph/tachographlaw06.AggBuckets" = some 5 by kernel_rfl).symm.trans hf) |>.symm
      obtain rfl : fn = Tryd.f5 := (Option.some.inj (Tryd.func5.symm.trans hfn)).symm
      exact ⟨by kernel_rfl, fun j t ht => by
        rw [Tryd.params5] at ht
        have hm : t ∈ [3, 43, 31] := by simpa using Array.mem_of_getElem? ht
        have hall : ([3, 43, 31].all fun u => !Tryd.prog.wantsStandIn u) = true := by kernel_rfl
        exact (show Tryd.prog.wantsStandIn t = false by simpa using List.all_eq_true.1 hall t hm)⟩)
    (by kernel_rfl)
end aggBuckets
theorem aggBuckets_holds : Rows.AggBucketsCardSaid := aggBuckets.proved
#print axioms aggBuckets_holds
end Go.Proofs.YtjfjflffmpioaaaDoor
