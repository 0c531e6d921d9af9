/-
  Contract of the document's own Pass of layer 7.
-/
import Derived.Test.YtpahohnpcfgegaaTRef
namespace Go.Proofs.Ytpahohnpcfgegaa
open Go.RowKit
set_option linter.unusedVariables false
set_option linter.unusedSimpArgs false

theorem contains_take {l : List Int} {x : Int} {j : Nat} (h : j < l.length) : (l.take (j + 1)).contains x = ((l.take j).contains x || decide (l.getD j 0 = x)) := by
  rw [List.take_succ_eq_append_getElem h, List.getD_eq_getElem?_getD, List.getElem?_eq_getElem h]
  rw [Bool.eq_iff_iff, Bool.or_eq_true, decide_eq_true_eq]
  simp only [List.contains_iff_mem, List.mem_append, List.mem_singleton, Option.getD_some]
  constructor
  · rintro (h | h)
    · exact .inl h
    · exact .inr h.symm
  · rintro (h | h)
    · exact .inl h
    · exact .inr h.symm
/-- Is a time among those that are asked for, as far as to the j-th? -/
def isT (l : List Int) (j : Nat) (t : Int) : Bool := decide (l.length = 0) || (l.take j).contains t
theorem isT_step {l : List Int} {j : Nat} (h : j < l.length) (t : Int) : isT l (j + 1) t = (isT l j t || decide (l.getD j 0 = t)) := by
  unfold isT
  rw [contains_take h, Bool.or_assoc]
theorem alloc22 (w : World) (x y : Obj) : ∀ W, (w.alloc x).alloc y = W → W.heap[w.heap.size]? = some x ∧ W.heap[w.heap.size + 1]? = some y ∧ Below w.heap.size w W ∧ w.heap.size + 2 = W.heap.size := alloc2 w x y

set_option maxRecDepth 100000 in
set_option maxHeartbeats 4000000 in
theorem rpass_any (q : Qry) (a : Option Addr) (n c : Nat) (x : Int × Int) (w : World) (h : IntAt w a n c q.tm) :
    Calls Try.prog 17 #[qv q a n c, .agg #[.int .i64 x.1, .int .i64 x.2]] w fun e w' => e = .returned (.bool (passB q x)) ∧ Below w.heap.size w w' := by
  obtain ⟨t, v⟩ := x
  have HL := Lib.hid h.1
  have hn := h.2.2.1
  have HI := Lib.hid h
  have EP := Lib.hid (show passB q (t, v) = (inB q.fr q.to t && isT q.tm n t && (!q.vals || inB q.lo q.hi v)) from by
    unfold passB isT
    simp only
    rw [List.take_of_length_le (by rw [HL.out]; exact Nat.le_refl _)])
  have HA := Lib.hid (alloc22 w (.cells #[.int .i64 q.fr, .int .i64 q.to, .bool q.back, .int .i64 q.cnt, .int .i64 q.kd, .int .i64 q.sz, .int .i64 q.al, .bool q.emp, .slice a n c, .bool q.vals, .int .i64 q.lo, .int .i64 q.hi] 33) (.cells #[.int .i64 t, .int .i64 v] 27) _ rfl)
  have tz : ((n : Int) == 0) = decide (q.tm.length = 0) := by
    rw [HL.out, Bool.eq_iff_iff, beq_iff_eq, decide_eq_true_eq]; omega
  obtain ⟨z0, hz0⟩ : ∃ z0, decide (q.tm.length = 0) = z0 := ⟨_, rfl⟩
  have HZ := Lib.hid (show isT q.tm 0 t = z0 from by unfold isT; rw [hz0]; simp)
  rw [hz0] at tz
  clear h hz0
  unfold qv
  go_enter Try.func17, Try.ntmps17
  go_wp2
  generalize (w.alloc (.cells #[.int .i64 q.fr, .int .i64 q.to, .bool q.back, .int .i64 q.cnt, .int .i64 q.kd, .int .i64 q.sz, .int .i64 q.al, .bool q.emp, .slice a n c, .bool q.vals, .int .i64 q.lo, .int .i64 q.hi] 33)).alloc (.cells #[.int .i64 t, .int .i64 v] 27) = W1 at *
  obtain ⟨hq1, hx1, B1, s1⟩ := HA.out
  have HQ := Lib.hid (qc_of (q := q) (a := a) (n := n) (c := c) hq1)
  have x0 : W1.cell? ⟨w.heap.size + 1, 0, none⟩ = some (.int .i64 t) := by rw [cell_of hx1]; rfl
  have x1 : W1.cell? ⟨w.heap.size + 1, 1, none⟩ = some (.int .i64 v) := by rw [cell_of hx1]; rfl
  have HI1 := Lib.hid (HI.out.keep B1)
  have HX := Lib.hid (And.intro x0 x1)
  generalize hqb : w.heap.size = qb at *
  have HQB := Lib.hid hqb
  clear hqb hq1 hx1 x0 x1 HA
  go_loopw [5, 6] (fun r i wr => ∃ j : Nat, j ≤ n ∧ i = .int .i64 (j : Int) ∧ r = .bool (isT q.tm j t) ∧ ∃ m, wr = W1.drewN m) (fun _ i _ => n - (intOf i).toNat)
  case atStart => exact ⟨0, Nat.zero_le _, rfl, by rw [HZ.out], 0, rfl⟩
  case round =>
    obtain ⟨j, hj, rfl, rfl, m, rfl⟩ := hrel
    have HD := (show Drew W1 (W1.drewN m) from ⟨m, rfl⟩).below
    have HQ2 : QC (W1.drewN m) qb q a n c := HQ.out
    have HX2 : (W1.drewN m).cell? ⟨qb + 1, 0, none⟩ = some (.int .i64 t) ∧ (W1.drewN m).cell? ⟨qb + 1, 1, none⟩ = some (.int .i64 v) := HX.out
    have HI2 := HI1.out.keep HD
    have HDR := Lib.hid (show ∀ k, ∃ m', (W1.drewN m).drewN k = W1.drewN m' from fun k => ⟨m + k, by simp⟩)
    have HBB := Lib.hid (show Below qb w (W1.drewN m) from B1.trans (HD.mono (by omega)))
    generalize W1.drewN m = W2 at *
    obtain ⟨c0, c1, c2, c3, c4, c5, c6, c7, c8, c9, c10, c11⟩ := HQ2
    obtain ⟨x0, x1⟩ := HX2
    by_cases hjn : j < n
    · have HST := Lib.hid (isT_step (l := q.tm) (j := j) (by rw [HL.out]; exact hjn) t)
      obtain ⟨p, o, ha, hp, y0⟩ := HI2.at_ j hjn
      subst ha
      generalize q.tm.getD j 0 = y at *
      obtain ⟨r, hr⟩ : ∃ r, isT q.tm j t = r := ⟨_, rfl⟩
      rw [hr] at HST ⊢
      clear hr
      have hjn' : (j : Int) < (n : Int) := by omega
      cases r
      · by_cases he : y = t
        · have tb : (y == t) = true := beq_iff_eq.2 he
          have HF := Lib.hid (show isT q.tm (j + 1) t = true from by rw [HST.out, he]; simp)
          clear he HST
          go_wp2_with fail
          go_quiet (fail)
          obtain ⟨m', hm'⟩ := HDR.out nq
          rw [hm']
          clear c0 c1 c2 c3 c4 c5 c6 c7 c8 c9 c10 c11 x0 x1 y0
          go_wp2
          go_roundw
          case rel => exact ⟨j + 1, by omega, by go_num, by rw [HF.out], m', rfl⟩
          case measure => simp [intOf]; omega
        · have tb : (y == t) = false := beq_eq_false_iff_ne.2 he
          have HF := Lib.hid (show isT q.tm (j + 1) t = false from by rw [HST.out]; simp [he])
          clear he HST
          go_wp2_with fail
          go_quiet (fail)
          obtain ⟨m', hm'⟩ := HDR.out nq
          rw [hm']
          clear c0 c1 c2 c3 c4 c5 c6 c7 c8 c9 c10 c11 x0 x1 y0
          go_wp2
          go_roundw
          case rel => exact ⟨j + 1, by omega, by go_num, by rw [HF.out], m', rfl⟩
          case measure => simp [intOf]; omega
      · have HF := Lib.hid (show isT q.tm (j + 1) t = true from by rw [HST.out]; simp)
        clear HST
        go_wp2_with fail
        go_quiet (fail)
        obtain ⟨m', hm'⟩ := HDR.out nq
        rw [hm']
        clear c0 c1 c2 c3 c4 c5 c6 c7 c8 c9 c10 c11 x0 x1 y0
        go_wp2
        go_roundw
        case rel => exact ⟨j + 1, by omega, by go_num, by rw [HF.out], m', rfl⟩
        case measure => simp [intOf]; omega
    · obtain rfl : j = n := by omega
      clear HI2
      obtain ⟨r, hr⟩ : ∃ r, isT q.tm j t = r := ⟨_, rfl⟩
      rw [hr] at EP ⊢
      clear hr
      cases r
      · skip
        have E := Lib.hid (show passB q (t, v) = false from by rw [EP.out]; unfold inB; simp [])
        clear EP
        go_wp2
        go_ret
        exact ⟨ret_bool E.out.symm, by rw [HQB.out]; exact HBB.out⟩
      · by_cases h1 : q.fr ≤ t
        · by_cases h2 : t ≤ q.to
          · have hvv : q.vals = false ∨ q.vals = true := by cases q.vals <;> simp
            rcases hvv with hv | hv
            · rw [hv] at EP c9
              clear hv
              have E := Lib.hid (show passB q (t, v) = true from by rw [EP.out]; unfold inB; simp [h1, h2])
              clear EP
              go_wp2
              go_ret
              exact ⟨ret_bool E.out.symm, by rw [HQB.out]; exact HBB.out⟩
            · rw [hv] at EP c9
              clear hv
              by_cases h3 : q.lo ≤ v
              · by_cases h4 : v ≤ q.hi
                · skip
                  have E := Lib.hid (show passB q (t, v) = true from by rw [EP.out]; unfold inB; simp [h1, h2, h3, h4])
                  clear EP
                  go_wp2
                  go_ret
                  exact ⟨ret_bool E.out.symm, by rw [HQB.out]; exact HBB.out⟩
                · skip
                  have E := Lib.hid (show passB q (t, v) = false from by rw [EP.out]; unfold inB; simp [h1, h2, h3, h4])
                  clear EP
                  go_wp2
                  go_ret
                  exact ⟨ret_bool E.out.symm, by rw [HQB.out]; exact HBB.out⟩
              · skip
                have E := Lib.hid (show passB q (t, v) = false from by rw [EP.out]; unfold inB; simp [h1, h2, h3])
                clear EP
                go_wp2
                go_ret
                exact ⟨ret_bool E.out.symm, by rw [HQB.out]; exact HBB.out⟩
          · skip
            have E := Lib.hid (show passB q (t, v) = false from by rw [EP.out]; unfold inB; simp [h1, h2])
            clear EP
            go_wp2
            go_ret
            exact ⟨ret_bool E.out.symm, by rw [HQB.out]; exact HBB.out⟩
        · skip
          have E := Lib.hid (show passB q (t, v) = false from by rw [EP.out]; unfold inB; simp [h1])
          clear EP
          go_wp2
          go_ret
          exact ⟨ret_bool E.out.symm, by rw [HQB.out]; exact HBB.out⟩

end Go.Proofs.Ytpahohnpcfgegaa
