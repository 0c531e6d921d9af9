/-
  The statement 'RowsParts' of layer 7: without buckets what is told of two parts of the times, one behind the other, is what is told of all; a sample is told just if it passes.
  No condition on the arguments.
-/
import Derived.Test.YtpahohnpcfgegaaTKnown
import Derived.Test.YtpahohnpcfgegaaTArgs
import Derived.Test.YtpahohnpcfgegaaRows
import Derived.Test.YtpahohnpcfgegaaTRef
import Derived.Deep.RegionHeld3
import Derived.Laws.AppendOwn
import Derived.Laws.OwnMore
import Derived.ChangeOld
namespace Go.Proofs.Ytpahohnpcfgegaa
namespace rowsParts
open Go.ChangeShapes Go.WideShapes Go.ChangeAt Go.RowKit
set_option linter.unusedVariables false
set_option linter.unusedSimpArgs false

theorem own : ownKnob Try.prog.godebug = none := by kernel_rfl


def qNon (q : Qry) : Qry := { q with back := false, cnt := 0, kd := 0, emp := false }
def qLow (q : Qry) (cut : Int) : Qry := { q with to := cut, back := false, cnt := 0, kd := 0, emp := false }
def qHigh (q : Qry) (cut : Int) : Qry := { q with fr := cut + 1, back := false, cnt := 0, kd := 0, emp := false }
theorem cut0 : cutR 0 = id := by funext l; exact if_pos rfl
theorem tell_non {q : Qry} (z : List (Int × Int)) (hb : q.back = false) (hc : q.cnt = 0) (hk : q.kd = 0) (he : q.emp = false) (h : q.tm.length ≤ 32) : tellR q z = (z.filter (passB q), 0) := by
  have e1 : madeR q (z.filter (passB q)) = (z.filter (passB q), 0) := if_pos hk
  unfold tellR
  rw [if_pos (show rightQ q from ⟨by omega, h, fun _ => he, fun h => absurd hk h⟩), e1, if_pos rfl, hc, hb, cut0]; rfl
theorem pass_low {q : Qry} {cut : Int} (h : cut < q.to) (x : Int × Int) : passB (qLow q cut) x = (decide (x.1 ≤ cut) && passB (qNon q) x) := by
  unfold passB inB qLow qNon
  simp only
  by_cases h1 : x.1 ≤ cut
  · have h2 : x.1 ≤ q.to := by omega
    simp [h1, h2]
  · simp [h1]
theorem pass_high {q : Qry} {cut : Int} (h : q.fr ≤ cut) (x : Int × Int) : passB (qHigh q cut) x = (decide (cut < x.1) && passB (qNon q) x) := by
  unfold passB inB qHigh qNon
  simp only
  by_cases h1 : cut < x.1
  · have h2 : q.fr ≤ x.1 := by omega
    have h3 : cut + 1 ≤ x.1 := by omega
    simp [h1, h2, h3]
  · have h3 : ¬ cut + 1 ≤ x.1 := by omega
    simp [h1, h3]
/-- What passes of rising times, in two parts. -/
theorem split_pass (P : Int × Int → Bool) (cut : Int) (R : List (Int × Int)) (h : R.Pairwise (fun u v => u.1 < v.1)) :
    R.filter (fun x => decide (x.1 ≤ cut) && P x) ++ R.filter (fun x => decide (cut < x.1) && P x) = R.filter P := by
  induction R with
  | nil => rfl
  | cons x r ih =>
    rw [List.pairwise_cons] at h
    by_cases h1 : x.1 ≤ cut
    · have h2 : ¬ cut < x.1 := by omega
      have e := ih h.2
      rw [List.filter_cons, List.filter_cons, List.filter_cons]
      simp only [h1, h2, decide_true, decide_false, Bool.true_and, Bool.false_and]
      cases hp : P x
      · simpa using e
      · simp only [if_true, List.cons_append]
        rw [← e]; rfl
    · have h2 : cut < x.1 := by omega
      have e0 : r.filter (fun y => decide (y.1 ≤ cut) && P y) = [] := by
        rw [List.filter_eq_nil_iff]
        intro y hy
        have := h.1 y hy
        have h3 : ¬ y.1 ≤ cut := by omega
        simp [h3]
      have e1 : r.filter (fun y => decide (cut < y.1) && P y) = r.filter P := by
        apply List.filter_congr
        intro y hy
        have := h.1 y hy
        have h3 : cut < y.1 := by omega
        simp [h3]
      rw [List.filter_cons, List.filter_cons, List.filter_cons]
      simp only [h1, h2, decide_true, decide_false, Bool.true_and, Bool.false_and, e0, e1]
      cases hp : P x <;> simp
theorem parts_all {q : Qry} {cut : Int} (h1 : q.fr ≤ cut) (h2 : cut < q.to) (R : List (Int × Int)) (h : R.Pairwise (fun u v => u.1 < v.1)) :
    R.filter (passB (qLow q cut)) ++ R.filter (passB (qHigh q cut)) = R.filter (passB (qNon q)) := by
  rw [show passB (qLow q cut) = fun x => decide (x.1 ≤ cut) && passB (qNon q) x from funext (pass_low h2), show passB (qHigh q cut) = fun x => decide (cut < x.1) && passB (qNon q) x from funext (pass_high h1)]
  exact split_pass _ _ _ h
theorem filter_at7 (p : Int × Int → Bool) (z : List (Int × Int)) (j : Nat) (hj : j < z.length) (hp : p z[j] = true) :
    ((z.take j).filter p).length < (z.filter p).length ∧ (z.filter p)[((z.take j).filter p).length]? = some z[j] := by
  have e : z.filter p = (z.take j).filter p ++ z[j] :: (z.drop (j + 1)).filter p := by
    conv => lhs; rw [← List.take_append_drop j z, List.filter_append, List.drop_eq_getElem_cons hj, List.filter_cons, if_pos hp]
  rw [e]
  constructor
  · rw [List.length_append, List.length_cons]; omega
  · rw [List.getElem?_append_right (Nat.le_refl _), Nat.sub_self]; rfl
theorem filter_at8 (p : Int × Int → Bool) (z : List (Int × Int)) (j : Nat) (hj : j < z.length) (hp : p (tOf z j, vOf z j) = true) :
    ((z.take j).filter p).length < (z.filter p).length ∧ (z.filter p)[((z.take j).filter p).length]? = some (tOf z j, vOf z j) := by
  have := filter_at7 p z j hj (by rw [pair_at z j hj]; exact hp)
  rwa [pair_at z j hj] at this
theorem rise_snoc {R : List (Int × Int)} {t v : Int} (h : R.Pairwise (fun u v => u.1 < v.1)) (hl : R = [] ∨ tOf R (R.length - 1) < t) : (R ++ [(t, v)]).Pairwise (fun u v => u.1 < v.1) := by
  rw [List.pairwise_append]
  refine ⟨h, by simp, fun u hu y hy => ?_⟩
  rw [List.mem_singleton] at hy
  subst hy
  rcases hl with rfl | hl
  · cases hu
  · obtain ⟨i, hi, e⟩ := List.mem_iff_getElem.1 hu
    have hR : R.length - 1 < R.length := by omega
    have e2 : R[R.length - 1].1 = tOf R (R.length - 1) := by rw [pair_at R _ hR]
    by_cases hlast : i = R.length - 1
    · subst hlast
      rw [← e, e2]; exact hl
    · have := List.pairwise_iff_getElem.1 h i (R.length - 1) hi hR (by omega)
      rw [← e]
      show R[i].1 < t
      omega
theorem snoc64 {R : List (Int × Int)} {t v : Int} (h : All64 R) (ht : in64 t) (hv : in64 v) : All64 (R ++ [(t, v)]) := fun u hu => by
  rcases List.mem_append.1 hu with hu | hu
  · exact h u hu
  · rw [List.mem_singleton] at hu
    subst hu
    exact ⟨ht, hv⟩
theorem smpCells_app (x y : List (Int × Int)) : smpCells (x ++ y) = smpCells x ++ smpCells y := by simp [smpCells]
theorem src_samp7 {w : World} {a : Option Addr} {len cap : Nat} {z : List (Int × Int)} (h : SampAt w a len cap z) (h0 : 0 < len) :
    ∃ ad, a = some ad ∧ ∀ j v, (smpCells z)[j]? = some v → w.cell? (ad.add j) = some v := by
  obtain ⟨h1, h2, h3, h4, h5⟩ := h
  rcases h5 with e | ⟨b, off, rfl, hb, hc⟩
  · omega
  · refine ⟨_, rfl, fun j v hj => ?_⟩
    have hjl : j < (smpCells z).length := (List.getElem?_eq_some_iff.1 hj).1
    rw [smpCells_length] at hjl
    obtain ⟨c1, c2⟩ := hc (j / 2) (by omega)
    obtain ⟨g1, g2⟩ := smpCells_get z (j / 2) (by omega)
    have ha : (⟨b, off, none⟩ : Addr).add j = ⟨b, off + j, none⟩ := by simp [Addr.add]
    rw [ha]
    rcases (show j = j / 2 * 2 ∨ j = j / 2 * 2 + 1 from by omega) with e | e
    · rw [e] at hj ⊢
      rw [g1] at hj
      rw [c1, hj]
    · rw [e] at hj ⊢
      rw [g2] at hj
      rw [← Nat.add_assoc, c2, hj]
theorem run_append_nothing {P : Program} {w : World} (base : Nat) (t ty e : TypeId) (i : TypeInfo) (size c : Nat) (ht : P.underlying t = some (.slice e)) (hi : P.info? e = some i)
    (v : Value) (n : Nat) (xs : List Value) (hown : w.ownsRow base e size v n xs) :
    (Builtin.append_ #[t, t] ty #[v, .slice none 0 c]).run P w = .ok v w := by
  rcases hown.2 with ⟨rfl, rfl⟩ | ⟨g, cap, cur, rfl, _, _, hnc, _⟩
  · simp [Builtin.append_, run_underlying ht, sizeOf, typeInfo, hi, Builtin.lenOf, Builtin.firstCells]
  · simp [Builtin.append_, run_underlying ht, sizeOf, typeInfo, hi, Builtin.lenOf, Builtin.firstCells, hnc, storeCells]
theorem wpList_append_samp {w : World} {ops : Array Oper} {rest : List Oper} {o : Oper} {a : Act} {Q : Exit → Act → World → Prop} (hw : Region.wanted o (yielded ops a.tmps) = true) (s x : Operand)
    (ho : o.op = .call { callee := .builtin .append, args := #[s, x], argTypes := #[22, 22] })
    (base : Nat) (v : Value) (n : Nat) (z0 : List (Int × Int)) (hs : a.eval s = v) (hn : z0.length = n) (hown : w.ownsRow base 27 2 v n (smpCells z0))
    (ax : Option Addr) (m c : Nat) (z : List (Int × Int)) (hx : a.eval x = .slice ax m c) (hl : SampAt w ax m c z) (hb : n + m ≤ 1048576) (hbase : base ≤ w.heap.size)
    (h : ∀ v' w', w'.ownsRow base 27 2 v' (n + m) (smpCells (z0 ++ z)) → w.grownBy w' v.ownBlock → wpList Try.prog ops Q rest (a.put o.dst v') w') : wpList Try.prog ops Q (o :: rest) a w := by
  obtain ⟨i0, hi, hz0, hz1, hz2⟩ := info_parts info_samp
  refine wpList_step fun K hK => ?_
  rw [if_pos hw]
  have hm := hl.1
  cases ax with
  | none =>
    have h0 : m = 0 := by
      rcases hl.2.2.2.2 with e | ⟨b, off, e, _⟩
      · exact e
      · cases e
    subst h0
    have e0 : z = [] := List.eq_nil_of_length_eq_zero hm
    subst e0
    have hrun := run_append_nothing (P := Try.prog) (w := w) base 22 o.type 27 i0 2 c Try.underlying22 hi v n _ hown
    unfold Oper.wp
    simp [execOp, ho, resolve, invoke, builtin, hs, hx, hrun, Result.andThen]
    refine hK _ _ (h v w ?_ (gb_refl _ _))
    simpa using hown
  | some ad =>
    refine wp_append_own w s x 22 ho base 27 i0 _ 2 16 Try.underlying22 hi hz0 hz1 hz2 rfl (by omega) v n _ hs hown ad m c (smpCells z) hx (by rw [smpCells_length, hm]) ?_ (smpCells_one z) (by unfold maxLen; omega) (by omega) hbase ?_
    · intro j u hj
      by_cases h0 : 0 < m
      · obtain ⟨ad', e, hc⟩ := src_samp7 hl h0
        cases e
        exact hc j u hj
      · have : z = [] := List.eq_nil_of_length_eq_zero (by omega)
        subst this
        simp [smpCells] at hj
    · intro v' w' h2 h3 _
      refine hK _ _ (h v' w' ?_ h3)
      rw [smpCells_app]; exact h2
theorem own_empty (w : World) (base : Nat) (h : base ≤ w.heap.size) : (w.alloc (.cells #[] 27)).ownsRow base 27 2 (.slice (some ⟨w.heap.size, 0, none⟩) 0 0) 0 (smpCells []) :=
  ⟨rfl, .inr ⟨w.heap.size, 0, #[], rfl, h, heap_new w _, Nat.le_refl _, by unfold maxLen; omega, rfl, rfl⟩⟩
theorem pass_n (q : Qry) (a : Option Addr) (n c : Nat) (t v : Int) (w : World) (h : IntAt w a n c q.tm) :
    Calls Try.prog 16 #[.agg #[.int .i64 q.fr, .int .i64 q.to, .bool false, .int .i64 0, .int .i64 0, .int .i64 q.sz, .int .i64 q.al, .bool false, .slice a n c, .bool q.vals, .int .i64 q.lo, .int .i64 q.hi], .agg #[.int .i64 t, .int .i64 v]] w fun e w' => e = .returned (.bool (passB (qNon q) (t, v))) ∧ Below w.heap.size w w' := pass_any (qNon q) a n c (t, v) w h

set_option maxRecDepth 100000 in
set_option maxHeartbeats 8000000 in
theorem walk0 (sa : Option Addr) (len cap : Nat) (z : List (Int × Int)) (q : Qry) (a : Option Addr) (n c : Nat) (cut : Int) (w : World) (hz : SampAt w sa len cap z) (hq64 : Q64 q) (hi : IntAt w a n c q.tm) :
    Calls Try.prog 6 #[.slice sa len cap, qv q a n c, .int .i64 cut] w fun e w' => e = .returned (.bool true) ∧ Below w.heap.size w w' := by
  have HZ := Lib.hid hz
  have HI := Lib.hid hi
  have HL := Lib.hid hz.1
  have HTM := Lib.hid hi.1
  have HQ64 := Lib.hid hq64
  have B0 := Lib.hid (show ∀ o, Below w.heap.size w (w.alloc o) from fun o => (Below.refl _ _).alloc (Nat.le_refl _) o)
  clear hz hi hq64
  unfold qv
  by_cases hl : 60 < len
  · have hl' : (60 : Int) < (len : Int) := by omega
    go_enter Try.func6, Try.ntmps6
    go_wp2_with fail
    refine (tknown_any _).mono ?_
    rintro e W2 ⟨rfl, b2⟩
    have B2 := (B0.out _).trans (b2.mono (B0.out _).size)
    go_wp2
    go_ret
    exact ⟨rfl, B2⟩
  · have hl' : ¬ (60 : Int) < (len : Int) := by omega
    by_cases hn : 32 < n
    · have hn' : (32 : Int) < (n : Int) := by omega
      go_enter Try.func6, Try.ntmps6
      go_wp2_with fail
      refine (tknown_any _).mono ?_
      rintro e W2 ⟨rfl, b2⟩
      have B2 := (B0.out _).trans (b2.mono (B0.out _).size)
      go_wp2
      go_ret
      exact ⟨rfl, B2⟩
    · have hn' : ¬ (32 : Int) < (n : Int) := by omega
      by_cases hc1 : cut < q.fr
      · go_enter Try.func6, Try.ntmps6
        go_wp2_with fail
        refine (tknown_any _).mono ?_
        rintro e W2 ⟨rfl, b2⟩
        have B2 := (B0.out _).trans (b2.mono (B0.out _).size)
        go_wp2
        go_ret
        exact ⟨rfl, B2⟩
      · by_cases hc2 : q.to ≤ cut
        · go_enter Try.func6, Try.ntmps6
          go_wp2_with fail
          refine (tknown_any _).mono ?_
          rintro e W2 ⟨rfl, b2⟩
          have B2 := (B0.out _).trans (b2.mono (B0.out _).size)
          go_wp2
          go_ret
          exact ⟨rfl, B2⟩
        · have HC1 := Lib.hid (show q.fr ≤ cut by omega)
          have HC2 := Lib.hid (show cut < q.to by omega)
          go_enter Try.func6, Try.ntmps6
          go_wp2
          clear hc1 hc2 B0
          have HA := Lib.hid (alloc2 w (.cells #[.int .i64 q.fr, .int .i64 q.to, .bool q.back, .int .i64 q.cnt, .int .i64 q.kd, .int .i64 q.sz, .int .i64 q.al, .bool q.emp, .slice a n c, .bool q.vals, .int .i64 q.lo, .int .i64 q.hi] 25) (.cells #[.int .i64 q.fr, .int .i64 q.to, .bool false, .int .i64 0, .int .i64 0, .int .i64 q.sz, .int .i64 q.al, .bool false, .slice a n c, .bool q.vals, .int .i64 q.lo, .int .i64 q.hi] 25) _ rfl)
          generalize (w.alloc (.cells #[.int .i64 q.fr, .int .i64 q.to, .bool q.back, .int .i64 q.cnt, .int .i64 q.kd, .int .i64 q.sz, .int .i64 q.al, .bool q.emp, .slice a n c, .bool q.vals, .int .i64 q.lo, .int .i64 q.hi] 25)).alloc (.cells #[.int .i64 q.fr, .int .i64 q.to, .bool false, .int .i64 0, .int .i64 0, .int .i64 q.sz, .int .i64 q.al, .bool false, .slice a n c, .bool q.vals, .int .i64 q.lo, .int .i64 q.hi] 25) = W1 at *
          obtain ⟨hq1, hq2, B1, s1⟩ := HA.out
          have HCN := Lib.hid (qc_of (q := qNon q) (a := a) (n := n) (c := c) hq2)
          have HZ1 := Lib.hid (HZ.out.keep B1)
          have HI1 := Lib.hid (HI.out.keep B1)
          generalize hqb : w.heap.size = qb at *
          have HQB := Lib.hid hqb
          clear hqb hq1 hq2 HA
          go_loopw [8, 9] (fun o i wr => ∃ (j : Nat) (R : List (Int × Int)), j ≤ len ∧ i = .int .i64 (j : Int) ∧ R.length ≤ j ∧ Hid (R.Pairwise (fun u v => u.1 < v.1)) ∧ Hid (All64 R) ∧ wr.ownsRow W1.heap.size 27 2 o R.length (smpCells R) ∧ Below W1.heap.size W1 wr) (fun _ i _ => len - (intOf i).toNat)
          case atStart => exact ⟨0, [], Nat.zero_le _, rfl, Nat.le_refl _, Lib.hid List.Pairwise.nil, Lib.hid (fun u hu => by cases hu), World.ownsRow_nil _ _ _ _, Below.refl _ _⟩
          case round =>
            obtain ⟨j, R, hj, rfl, hRj, HU, HA, hown, B⟩ := hrel
            by_cases hjn : j < len
            · obtain ⟨p, o, ha, hp, y0, y1⟩ := (HZ1.out.keep B).at_ j hjn
              subst ha
              have HTI := Lib.hid (all64_at HZ1.out.2.2.2.1 j).1
              have HVI := Lib.hid (vOf_in HZ1.out.2.2.2.1 j)
              generalize tOf z j = t at *
              generalize vOf z j = v at *
              obtain ⟨ad, cp, rfl, LI⟩ := row_samp HA.out (by omega) hown
              have HLI := Lib.hid LI
              obtain ⟨m, hm⟩ : ∃ m, R.length = m := ⟨_, rfl⟩
              have HM := Lib.hid hm
              rw [hm] at LI hown hRj ⊢
              clear hm LI
              have hm60 : m ≤ 60 := by omega
              have hjl : (j : Int) < (len : Int) := by omega
              have s3 := B.size
              by_cases hm0 : m = 0
              · have tz : ((m : Int) == 0) = true := by rw [hm0]; rfl
                have HM0 := Lib.hid (show R = [] from List.eq_nil_of_length_eq_zero (by rw [HM.out]; exact hm0))
                clear hm0
                have HST := Lib.hid (rise_snoc (t := t) (v := v) HU.out (.inl HM0.out))
                have HSA := Lib.hid (snoc64 HA.out HTI.out HVI.out)
                go_wp2_with fail
                go_quiet (fail)
                have d2 := (show Drew wr (wr.drewN nq) from ⟨nq, rfl⟩).below
                have B2 := B.trans (d2.mono B.size)
                have hown2 := own_keepN hown (gb_below d2)
                have x0 : (wr.drewN nq).cell? ⟨p, o + j * 2, none⟩ = some (.int .i64 t) := y0
                have x1 : (wr.drewN nq).cell? ⟨p, o + j * 2 + 1, none⟩ = some (.int .i64 v) := y1
                clear y0 y1 hown B d2 s3
                generalize wr.drewN nq = W2 at *
                have s3 := B2.size
                obtain ⟨i0, hi, hz0, hz1, hz2⟩ := info_parts info_samp
                go_wp2_with (at_builtin; refine wpList_append_own _ rfl _ _ 22 rfl W1.heap.size 27 i0 _ 2 16 Try.underlying22 hi hz0 hz1 hz2 rfl (by decide) _ _ _ rfl (hown2.alloc _) ⟨W2.heap.size, 0, none⟩ 1 1 [.int .i64 t, .int .i64 v] rfl rfl (two_cells _ _ _ _) (smp_one _ _) (by unfold maxLen; omega) (by omega) (by simp; omega) ?_)
                intro v' W5 hown5 g5 _
                have B5 := (B2.alloc s3 (.cells #[.int .i64 t, .int .i64 v] 27)).grown g5 (by simp; omega) (fun k hk => (hown2.lt k hk).1)
                clear hown2 g5 hi hz0 hz1 hz2 x0 x1 B2 s3
                go_wp2
                go_roundw
                case rel => exact ⟨j + 1, R ++ [(t, v)], by omega, by go_num, by rw [List.length_append, List.length_singleton, HM.out]; omega, HST, HSA, by rw [List.length_append, List.length_singleton, HM.out, smpCells_snoc]; exact hown5, B5⟩
                case measure => (simp [intOf] <;> omega)
              · have tz : ((m : Int) == 0) = false := by rw [beq_eq_false_iff_ne]; omega
                obtain ⟨pm, hpm⟩ : ∃ pm : Nat, m = pm + 1 := ⟨m - 1, by omega⟩
                have hmp : (m : Int) - 1 = (pm : Int) := by omega
                have hpw : IntKind.i64.wrap (pm : Int) = (pm : Int) := IntWalk.i64_in _ ⟨by omega, by omega⟩
                have hpm0 : (0 : Int) ≤ (pm : Int) := by omega
                have hpm1 : (pm : Int) < (m : Int) := by omega
                obtain ⟨p2, o2, e2, hp2, z0, z1⟩ := HLI.out.at_ pm (by rw [HM.out]; omega)
                subst e2
                obtain ⟨tl, htl⟩ : ∃ tl, tOf R pm = tl := ⟨_, rfl⟩
                rw [htl] at z0
                have HTL := Lib.hid (show tOf R (R.length - 1) = tl from by rw [HM.out, hpm]; exact htl)
                clear hm0 z1 htl hpm
                by_cases q2 : tl < t
                · have HST := Lib.hid (rise_snoc (t := t) (v := v) HU.out (.inr (by rw [HTL.out]; exact q2)))
                  have HSA := Lib.hid (snoc64 HA.out HTI.out HVI.out)
                  go_wp2_with fail
                  have tb : decide (tl < t) = true := decide_eq_true q2
                  go_quiet (fail)
                  have d2 := (show Drew wr (wr.drewN nq) from ⟨nq, rfl⟩).below
                  have B2 := B.trans (d2.mono B.size)
                  have hown2 := own_keepN hown (gb_below d2)
                  have x0 : (wr.drewN nq).cell? ⟨p, o + j * 2, none⟩ = some (.int .i64 t) := y0
                  have x1 : (wr.drewN nq).cell? ⟨p, o + j * 2 + 1, none⟩ = some (.int .i64 v) := y1
                  clear y0 y1 hown B d2 s3
                  generalize wr.drewN nq = W2 at *
                  have s3 := B2.size
                  obtain ⟨i0, hi, hz0, hz1, hz2⟩ := info_parts info_samp
                  go_wp2_with (at_builtin; refine wpList_append_own _ rfl _ _ 22 rfl W1.heap.size 27 i0 _ 2 16 Try.underlying22 hi hz0 hz1 hz2 rfl (by decide) _ _ _ rfl (hown2.alloc _) ⟨W2.heap.size, 0, none⟩ 1 1 [.int .i64 t, .int .i64 v] rfl rfl (two_cells _ _ _ _) (smp_one _ _) (by unfold maxLen; omega) (by omega) (by simp; omega) ?_)
                  intro v' W5 hown5 g5 _
                  have B5 := (B2.alloc s3 (.cells #[.int .i64 t, .int .i64 v] 27)).grown g5 (by simp; omega) (fun k hk => (hown2.lt k hk).1)
                  clear hown2 g5 hi hz0 hz1 hz2 x0 x1 B2 s3
                  go_wp2
                  go_roundw
                  case rel => exact ⟨j + 1, R ++ [(t, v)], by omega, by go_num, by rw [List.length_append, List.length_singleton, HM.out]; omega, HST, HSA, by rw [List.length_append, List.length_singleton, HM.out, smpCells_snoc]; exact hown5, B5⟩
                  case measure => (simp [intOf] <;> omega)
                · have Q2 := Lib.hid q2
                  clear q2
                  go_wp2_with fail
                  have tb : decide (tl < t) = false := decide_eq_false (by have := Q2.out; omega)
                  go_quiet (fail)
                  have d2 := (show Drew wr (wr.drewN nq) from ⟨nq, rfl⟩).below
                  have B2 := B.trans (d2.mono B.size)
                  have hown2 := own_keepN hown (gb_below d2)
                  clear y0 y1 z0 hown B d2 s3
                  generalize wr.drewN nq = W2 at *
                  go_wp2
                  go_roundw
                  case rel => exact ⟨j + 1, R, by omega, by go_num, by rw [HM.out]; omega, HU, HA, by rw [HM.out]; exact hown2, B2⟩
                  case measure => (simp [intOf] <;> omega)
            · obtain rfl : len = j := by omega
              obtain ⟨ad, cp, rfl, LI⟩ := row_samp HA.out (by omega) hown
              have HR60 := Lib.hid (show R.length ≤ 60 by omega)
              have HALL := Lib.hid (parts_all HC1.out HC2.out R HU.out)
              have hcu : cut + 1 ≤ 9223372036854775807 := by
                have := HC2.out
                have := HQ64.out.2.1.2
                omega
              have hcl : -9223372036854775808 ≤ cut + 1 := by
                have := HC1.out
                have := HQ64.out.1.1
                omega
              obtain ⟨c0, c1, c2, c3, c4, c5, c6, c7, c8, c9, c10, c11⟩ := HCN.out.keep B (by omega)
              obtain ⟨e0, e1, e2, e3, e4, e5, e6, e7, e8, e9, e10, e11⟩ := HCN.out.keep (B.alloc B.size (.cells #[.int .i64 q.fr, .int .i64 cut, .bool false, .int .i64 0, .int .i64 0, .int .i64 q.sz, .int .i64 q.al, .bool false, .slice a n c, .bool q.vals, .int .i64 q.lo, .int .i64 q.hi] 25)) (by omega)
              simp only [qNon] at c0 c1 c2 c3 c4 c5 c6 c7 c8 c9 c10 c11 e0 e1 e2 e3 e4 e5 e6 e7 e8 e9 e10 e11
              have sB := B.size
              go_wp2_with fail
              clear c0 c1 c2 c3 c4 c5 c6 c7 c8 c9 c10 c11 e0 e1 e2 e3 e4 e5 e6 e7 e8 e9 e10 e11
              have HAA := Lib.hid (alloc2 wr (.cells #[.int .i64 q.fr, .int .i64 cut, .bool false, .int .i64 0, .int .i64 0, .int .i64 q.sz, .int .i64 q.al, .bool false, .slice a n c, .bool q.vals, .int .i64 q.lo, .int .i64 q.hi] 25) (.cells #[.int .i64 (cut + 1), .int .i64 q.to, .bool false, .int .i64 0, .int .i64 0, .int .i64 q.sz, .int .i64 q.al, .bool false, .slice a n c, .bool q.vals, .int .i64 q.lo, .int .i64 q.hi] 25) _ rfl)
              generalize (wr.alloc (.cells #[.int .i64 q.fr, .int .i64 cut, .bool false, .int .i64 0, .int .i64 0, .int .i64 q.sz, .int .i64 q.al, .bool false, .slice a n c, .bool q.vals, .int .i64 q.lo, .int .i64 q.hi] 25)).alloc (.cells #[.int .i64 (cut + 1), .int .i64 q.to, .bool false, .int .i64 0, .int .i64 0, .int .i64 q.sz, .int .i64 q.al, .bool false, .slice a n c, .bool q.vals, .int .i64 q.lo, .int .i64 q.hi] 25) = W3 at *
              obtain ⟨hq3, hq4, b3, s3⟩ := HAA.out
              have HCA := Lib.hid (qc_of (q := qLow q cut) (a := a) (n := n) (c := c) hq3)
              have HCB := Lib.hid (qc_of (q := qHigh q cut) (a := a) (n := n) (c := c) hq4)
              have B3 := B.trans (b3.mono sB)
              have LI3 := LI.keep b3
              have HL3 := Lib.hid LI3
              generalize hxb : wr.heap.size = xb at *
              clear hq3 hq4 HAA hown LI b3 hxb LI3
              have hb3 : W1.heap.size ≤ W3.heap.size := by omega
              have TT := tell_any (qLow q cut) a n c ad R.length cp R W3 HL3.out (HI1.out.keep B3) (by have := HR60.out; omega)
              rw [tell_non R rfl rfl rfl rfl (by show q.tm.length ≤ 32; rw [HTM.out]; omega)] at TT
              refine TT.mono ?_
              clear TT
              rintro e W4 ⟨a4, n4, p4, rfl, S4, b4⟩
              have B4 := B3.trans (b4.mono hb3)
              have HL4 := Lib.hid (HL3.out.keep b4)
              obtain ⟨c0, c1, c2, c3, c4, c5, c6, c7, c8, c9, c10, c11⟩ := HCB.out.keep b4 (by omega)
              have s4 := b4.size
              clear b4 B3
              simp only [qHigh] at c0 c1 c2 c3 c4 c5 c6 c7 c8 c9 c10 c11
              go_wp2_with fail
              clear c0 c1 c2 c3 c4 c5 c6 c7 c8 c9 c10 c11
              have TT := tell_any (qHigh q cut) a n c ad R.length cp R W4 HL4.out (HI1.out.keep B4) (by have := HR60.out; omega)
              rw [tell_non R rfl rfl rfl rfl (by show q.tm.length ≤ 32; rw [HTM.out]; omega)] at TT
              refine TT.mono ?_
              clear TT
              rintro e W5 ⟨a5, n5, p5, rfl, S5, b5⟩
              have B5 := B4.trans (b5.mono (by omega))
              have HL5 := Lib.hid (HL4.out.keep b5)
              replace S4 := S4.keep b5
              obtain ⟨c0, c1, c2, c3, c4, c5, c6, c7, c8, c9, c10, c11⟩ := HCN.out.keep B5 (by omega)
              have s5 := b5.size
              clear b5 B4
              simp only [qNon] at c0 c1 c2 c3 c4 c5 c6 c7 c8 c9 c10 c11
              go_wp2_with fail
              clear c0 c1 c2 c3 c4 c5 c6 c7 c8 c9 c10 c11
              have TT := tell_any (qNon q) a n c ad R.length cp R W5 HL5.out (HI1.out.keep B5) (by have := HR60.out; omega)
              rw [tell_non R rfl rfl rfl rfl (by show q.tm.length ≤ 32; rw [HTM.out]; omega)] at TT
              refine TT.mono ?_
              clear TT
              rintro e W6 ⟨a6, n6, p6, rfl, S6, b6⟩
              have B6 := B5.trans (b6.mono (by omega))
              have HL6 := Lib.hid (HL5.out.keep b6)
              have HS4 := Lib.hid (S4.keep b6)
              have HS5 := Lib.hid (S5.keep b6)
              have HS6 := Lib.hid S6
              have hn6 := S6.2.2.1
              have s6 := b6.size
              clear b6 B5 S4 S5 S6
              have HFT := Lib.hid (filter_snoc (passB (qNon q)) R)
              have HAT := Lib.hid (filter_at8 (passB (qNon q)) R)
              have HPN := Lib.hid (fun t v W h => pass_n q a n c t v W h)
              have HRA := Lib.hid (show (R.take R.length).filter (passB (qNon q)) = R.filter (passB (qNon q)) from by rw [List.take_length])
              have HRL := Lib.hid (show ∀ Q : Int × Int → Bool, (R.filter Q).length ≤ 60 from fun Q => Nat.le_trans (List.length_filter_le _ _) HR60.out)
              have hn4 := HS4.out.1
              have hn5 := HS5.out.1
              have h45 : n4 ≤ 60 ∧ n5 ≤ 60 := ⟨by rw [← hn4]; exact HRL.out _, by rw [← hn5]; exact HRL.out _⟩
              obtain ⟨h4, h5⟩ := h45
              clear hn4 hn5
              generalize passB (qNon q) = P at *
              generalize R.filter (passB (qLow q cut)) = X at *
              generalize R.filter (passB (qHigh q cut)) = Y at *
              generalize R.length = rl at *
              have hs1 : W1.heap.size ≤ W6.heap.size := by omega
              have HKN := Lib.hid (show ∀ W, Below W6.heap.size W6 W → QC W (qb + 1) (qNon q) a n c from fun W hW => HCN.out.keep (B6.trans (hW.mono hs1)) (by omega))
              have HKI := Lib.hid (show ∀ W, Below W6.heap.size W6 W → IntAt W a n c q.tm from fun W hW => HI1.out.keep (B6.trans (hW.mono hs1)))
              go_wp2
              go_loopw [18, 19] (fun m i wr => ∃ j k : Nat, j ≤ rl ∧ k ≤ j ∧ i = .int .i64 (j : Int) ∧ m = .int .i64 (k : Int) ∧ Hid (((R.take j).filter P).length = k) ∧ Below W6.heap.size W6 wr) (fun _ i _ => rl - (intOf i).toNat)
              case atStart => exact ⟨0, 0, Nat.zero_le _, Nat.le_refl _, rfl, rfl, Lib.hid (by simp), Below.refl _ _⟩
              case round =>
                obtain ⟨j, k, hj, hk, rfl, rfl, HK, B⟩ := hrel
                have sB := B.size
                by_cases hjn : j < rl
                · obtain ⟨p, o, ha, hp, x0, x1⟩ := (HL6.out.keep B).at_ j hjn
                  subst ha
                  have hjR := hjn
                  have HSJ := Lib.hid (HFT.out j hjR)
                  have HPA := Lib.hid (HAT.out j hjR)
                  rw [HK.out] at HPA
                  generalize tOf R j = t at *
                  generalize vOf R j = v at *
                  have HX := Lib.hid (show ∀ W, Below wr.heap.size wr W → W.cell? ⟨p, o + j * 2, none⟩ = some (.int .i64 t) ∧ W.cell? ⟨p, o + j * 2 + 1, none⟩ = some (.int .i64 v) from fun W hW => ⟨by rw [hW.cell hp]; exact x0, by rw [hW.cell hp]; exact x1⟩)
                  have HKW := Lib.hid (show ∀ W, Below wr.heap.size wr W → QC W (qb + 1) (qNon q) a n c from fun W hW => HKN.out _ (B.trans (hW.mono sB)))
                  have HKJ := Lib.hid (show ∀ W, Below wr.heap.size wr W → IntAt W a n c q.tm from fun W hW => HKI.out _ (B.trans (hW.mono sB)))
                  have BD := Lib.hid ((Below.refl wr.heap.size wr).drew)
                  obtain ⟨c0, c1, c2, c3, c4, c5, c6, c7, c8, c9, c10, c11⟩ := HKN.out _ B
                  simp only [qNon] at c0 c1 c2 c3 c4 c5 c6 c7 c8 c9 c10 c11
                  have hjl : (j : Int) < (rl : Int) := by omega
                  clear hjR
                  go_wp2_with fail
                  go_region_held3 (fun w' => (w'.cell? ⟨p, o + j * 2, none⟩ = some (.int .i64 t) ∧ w'.cell? ⟨p, o + j * 2 + 1, none⟩ = some (.int .i64 v)) ∧ w'.cell? ⟨qb + 1, 0, none⟩ = some (.int .i64 q.fr) ∧ w'.cell? ⟨qb + 1, 1, none⟩ = some (.int .i64 q.to) ∧ w'.cell? ⟨qb + 1, 2, none⟩ = some (.bool false) ∧ w'.cell? ⟨qb + 1, 3, none⟩ = some (.int .i64 0) ∧ w'.cell? ⟨qb + 1, 4, none⟩ = some (.int .i64 0) ∧ w'.cell? ⟨qb + 1, 5, none⟩ = some (.int .i64 q.sz) ∧ w'.cell? ⟨qb + 1, 6, none⟩ = some (.int .i64 q.al) ∧ w'.cell? ⟨qb + 1, 7, none⟩ = some (.bool false) ∧ w'.cell? ⟨qb + 1, 8, none⟩ = some (.slice a n c) ∧ w'.cell? ⟨qb + 1, 9, none⟩ = some (.bool q.vals) ∧ w'.cell? ⟨qb + 1, 10, none⟩ = some (.int .i64 q.lo) ∧ w'.cell? ⟨qb + 1, 11, none⟩ = some (.int .i64 q.hi))
                    (first
                      | exact ⟨HX.out _ B7.out, HKW.out _ B7.out⟩
                      | exact ⟨HX.out _ BD.out, HKW.out _ BD.out⟩
                      | go_keep
                      | fail)
                    (first
                      | (go_at_call 16
                         (with_reducible refine (HPN.out t v _ (HKJ.out _ BD.out)).mono ?_)
                         rintro e W7 ⟨rfl, b7⟩
                         have B7 := Lib.hid (BD.out.trans (b7.mono BD.out.size))
                         clear b7)
                      | fail)
                  all_goals
                    rename_i hHeld
                    clear hHeld c0 c1 c2 c3 c4 c5 c6 c7 c8 c9 c10 c11 x0 x1
                    have BB := B.trans (B7.out.mono sB)
                    have s7 := BB.size
                    obtain ⟨x0, x1⟩ := HX.out _ B7.out
                    cases hps : P (t, v)
                    · have HF1 := Lib.hid (show (R.take (j + 1)).filter P = (R.take j).filter P from by rw [HSJ.out, hps]; rfl)
                      clear hps HSJ HPA x0 x1
                      go_wp2
                      go_roundw
                      case rel => exact ⟨j + 1, k, by omega, by omega, by go_num, rfl, by rw [HF1.out]; exact HK, BB⟩
                      case measure => simp [intOf]; omega
                    · have HF1 := Lib.hid (show (R.take (j + 1)).filter P = (R.take j).filter P ++ [(t, v)] from by rw [HSJ.out, hps]; rfl)
                      obtain ⟨hlt, hat⟩ := HPA.out hps
                      have hkn2 : k < n6 := by have := HS6.out.1; omega
                      have HAT2 := Lib.hid (show tOf (R.filter P) k = t ∧ vOf (R.filter P) k = v from by
                        unfold tOf vOf
                        rw [List.getD_eq_getElem?_getD, hat]
                        exact ⟨rfl, rfl⟩)
                      obtain ⟨p5, o5, ha5, hp5, y0, y1⟩ := (HS6.out.keep BB).at_ k hkn2
                      subst ha5
                      rw [HAT2.out.1] at y0
                      rw [HAT2.out.2] at y1
                      have e1 : (t == t) = true := by simp
                      have e2 : (v == v) = true := by simp
                      have hkn3 : (k : Int) < (n6 : Int) := by omega
                      clear hps HSJ HPA hlt hat
                      go_wp2_with fail
                      have g1 : decide ((n6 : Int) ≤ (k : Int)) = false := decide_eq_false (by omega)
                      have g2 : decide (n6 ≤ k) = false := decide_eq_false (by omega)
                      go_quiet (fail)
                      have B8 := BB.trans ((show Drew W7 (W7.drewN nq) from ⟨nq, rfl⟩).below.mono s7)
                      generalize W7.drewN nq = W8 at *
                      clear x0 x1 y0 y1 BB s7 g1 g2
                      go_wp2
                      go_roundw
                      case rel => exact ⟨j + 1, k + 1, by omega, by omega, by go_num, by go_num, Lib.hid (by rw [HF1.out, List.length_append, HK.out]; rfl), B8⟩
                      case measure => simp [intOf]; omega
                · obtain rfl : rl = j := by omega
                  rw [HRA.out] at HK
                  have hnn : n6 = k := by rw [← HK.out]; exact HS6.out.1.symm
                  subst hnn
                  have tt : ((n6 : Int) == (n6 : Int)) = true := beq_self_eq_true _
                  have hX := HS4.out.keep (B.alloc sB (.cells #[] 27))
                  have hY := Lib.hid (HS5.out.keep (B.alloc sB (.cells #[] 27)))
                  have hR := Lib.hid (HS6.out.keep (B.alloc sB (.cells #[] 27)))
                  have o9 := own_empty wr wr.heap.size (Nat.le_refl _)
                  have b9 := (Below.refl wr.heap.size wr).alloc (Nat.le_refl _) (.cells #[] 27)
                  have s9 : wr.heap.size ≤ (wr.alloc (.cells #[] 27)).heap.size := by simp
                  go_wp2_with (at_builtin; (refine wpList_append_samp ?_ (.tmp 133) (.tmp 134) rfl wr.heap.size _ 0 [] rfl rfl o9 a4 n4 p4 X rfl hX (by omega) s9 ?_))
                  intro v7 W7 o7 g7
                  have B7 := b9.grown g7 s9 (fun k hk => (o9.lt k hk).1)
                  have s7 := B7.size
                  have hY7 := HS5.out.keep (B.trans (B7.mono sB))
                  have hXl := hX.1
                  clear g7 o9 b9 s9 hX hY hR
                  go_wp2_with (at_builtin; (refine wpList_append_samp ?_ (.tmp 135) (.tmp 136) rfl wr.heap.size _ n4 X rfl hXl o7 a5 n5 p5 Y rfl hY7 (by omega) s7 ?_))
                  intro v8 W8 o8 g8
                  have B8 := B7.grown g8 s7 (fun k hk => (o7.lt k hk).1)
                  have s8 := B8.size
                  have B9 := B.trans (B8.mono sB)
                  have hZ8 := HS6.out.keep B9
                  have hYl := hY7.1
                  have o10 : W8.ownsRow wr.heap.size 27 2 v8 (R.filter P).length (smpCells (R.filter P)) := by
                    have e : n4 + n5 = (R.filter P).length := by rw [← HALL.out, List.length_append, hXl, hYl]
                    rw [← e, ← HALL.out]; exact o8
                  obtain ⟨ad9, cp9, rfl, S9⟩ := row_samp HS6.out.2.2.2.1 (by rw [HK.out]; exact hn6) o10
                  rw [HK.out] at S9 ⊢
                  clear o7 o8 o10 g8 hXl hYl hY7 B7 s7 HALL HK
                  generalize R.filter P = G at *
                  go_wp2_with fail
                  refine (same_any _ _ _ _ _ _ _ _ W8 S9 hZ8).mono ?_
                  rintro e W10 ⟨rfl, dd⟩
                  rw [decide_eq_true rfl]
                  have b10 := dd.below
                  have B10 := B9.trans (b10.mono (by omega))
                  have s10 := b10.size
                  clear dd S9 hZ8 b10 B9
                  go_wp2_with fail
                  refine (tknown_any _).mono ?_
                  rintro e W11 ⟨rfl, b11⟩
                  have B11 := B10.trans (b11.mono (by omega))
                  go_wp2
                  go_ret
                  exact ⟨rfl, by rw [HQB.out]; exact B1.trans ((B6.trans (B11.mono hs1)).mono (by omega))⟩

theorem walk (a0 : Option Addr) (len0 cap0 : Nat) (z0 : List (Int × Int)) (a1 : Qry) (qa1 : Option Addr) (qn1 qc1 : Nat) (a2 : Int) (w : World) (w0 : SampAt w a0 len0 cap0 z0) (w1 : Q64 a1) (iw1 : IntAt w qa1 qn1 qc1 a1.tm) (w2 : (Lit.int .i64 a2).wf = true) :
    Calls Try.prog 6 #[.slice a0 len0 cap0, qv a1 qa1 qn1 qc1, .int .i64 a2] w fun e w' => e = .returned (.bool true) ∧ Below w.heap.size w w' := walk0 a0 len0 cap0 z0 a1 qa1 qn1 qc1 a2 w w0 w1 iw1

set_option maxRecDepth 100000 in
theorem lifted (os : Os) (started : os.Started) (H : Type) (enc : TypeId × Value → H) :
    ReturnsInHanded {} Try.checked os 6 .any (Rows.rowsPartsSpec.pre6 enc Try.prog Try.f6 Rows.rowsPartsRow.domain false) (Rows.rowsPartsSpec.post enc Try.prog Try.f6 false true false false) := by
  refine returnsInHanded_of_change (C := Try.checked) own started (by kernel_rfl) Try.func6
    (ChangeSpec.witness6 (enc := enc) (C := Try.checked) false ⟨#[], #[.slice none 0 0, .agg #[.int .i64 0, .int .i64 0, .bool false, .int .i64 0, .int .i64 0, .int .i64 0, .int .i64 0, .bool false, .slice none 0 0, .bool false, .int .i64 0, .int .i64 0], .int .i64 0], []⟩ 8 (by kernel_rfl) (by kernel_rfl) (by kernel_rfl) (by kernel_rfl)) ?_
  intro W base args ds gs before hval0 hW hcnd _
  have hval : ∀ (j : Nat) t v, Try.f6.params[j]? = some t → args[j]? = some v → Value.okWide Try.prog W .any base t v := hval0
  have hW' := hW
  obtain ⟨p, q, hA0, hV, rfl, hfz, hnd⟩ := hW
  have hA : DataW.TrodAll enc Try.prog W 0 (fun _ => true) true Try.f6.params.toList args.toList ds p := hA0
  rw [Try.params6] at hA hval
  obtain ⟨v0, vs0, d0, ds0, p0, q0, hargs, rfl, rfl, h0, r0⟩ := trodAll_cons hA
  obtain ⟨v1, vs1, d1, ds1, p1, q1, rfl, rfl, rfl, h1, r1⟩ := trodAll_cons r0
  obtain ⟨v2, vs2, d2, ds2, p2, q2, rfl, rfl, rfl, h2, r2⟩ := trodAll_cons r1
  obtain ⟨rfl, rfl, rfl⟩ := trodAll_nil r2
  obtain rfl : args = #[v0, v1, v2] := by cases args; simp_all
  obtain ⟨rfl, rfl⟩ := trodVars_none hV
  obtain ⟨a0, len0, cap0, rfl⟩ := okWide_slice Try.underlying22 (hval 0 22 v0 rfl rfl)
  have k0 := h0
  have lt0 : ∀ x ∈ p0, x.block < W.heap.size := by obtain ⟨m, hm⟩ := k0; exact DataW.trod_lt m _ _ _ hm
  obtain ⟨z0, w0⟩ := open_samps h0
  have k1 := h1
  have lt1 : ∀ x ∈ p1, x.block < W.heap.size := by obtain ⟨m, hm⟩ := k1; exact DataW.trod_lt m _ _ _ hm
  obtain ⟨a1, qa1, qn1, qc1, rfl, w1, iw1⟩ := open_qry (hval 1 25 v1 rfl rfl) h1
  obtain ⟨a2, rfl, rfl, rfl, w2⟩ := open_int Try.underlying3 (hval 2 3 v2 rfl rfl) h2
  clear hA0 hval0
  refine (walk a0 len0 cap0 z0 a1 qa1 qn1 qc1 a2 W w0 w1 iw1 w2).mono fun e W' ⟨he, bel⟩ => ?_
  subst he
  exact ⟨_, rfl, _, _, _, [], _, [], hW', trodAll_mk1 (shut_bool Try.underlying4 _), (trodAll_cons_mk (Below.trod laidOut (by kernel_rfl) (of_decide_eq_true (by kernel_rfl)) k0 bel lt0) (trodAll_cons_mk (Below.trod laidOut (by kernel_rfl) (of_decide_eq_true (by kernel_rfl)) k1 bel lt1) (trodAll_cons_mk (shut_int Try.underlying3 w2) trodAll_mk0))), rfl, bel.frame _, fun h => by cases h⟩

theorem over : Rows.rowsPartsRow.holds Try.pinned (OpenSpec.ofChange Rows.rowsPartsSpec) :=
  OpenClaim.holds_of_wide 6 Try.f6 rfl rfl rfl rfl rfl rfl rfl ⟨rfl, rfl, rfl, rfl, rfl⟩ rfl rfl rfl rfl rfl (by kernel_rfl) Try.func6 (by kernel_rfl)
    (of_decide_eq_true (by kernel_rfl)) (by unfold Func.isWrapper; first | (rw [if_pos (by decide +kernel)]; kernel_rfl) | (rw [if_neg (by decide +kernel)]; exact ⟨rfl, rfl⟩))
    (fun os started H enc _ => lifted os started H enc)

theorem proved : Rows.RowsPartsSaid := over
end rowsParts
theorem rowsParts_holds : Rows.RowsPartsSaid := rowsParts.proved
#print axioms rowsParts_holds
end Go.Proofs.Ytpahohnpcfgegaa
