/-
  The statement 'RowsTotals' of layer 7: the counts of all buckets that a query is told are together as many as the samples that it is told without them.
  No condition on the arguments.
-/
import Derived.Test.YtpahohnpcfgegaaTKnown
import Derived.Test.YtpahohnpcfgegaaTArgs
import Derived.Test.YtpahohnpcfgegaaRows
import Derived.Test.YtpahohnpcfgegaaTRef
import Derived.ChangeOld
namespace Go.Proofs.Ytpahohnpcfgegaa
namespace rowsTotals
open Go.ChangeShapes Go.WideShapes Go.ChangeAt Go.RowKit
set_option linter.unusedVariables false
set_option linter.unusedSimpArgs false

theorem own : ownKnob Try.prog.godebug = none := by kernel_rfl

theorem alloc3 (w : World) (x y u : Obj) : ∀ W, ((w.alloc x).alloc y).alloc u = W → W.heap[w.heap.size]? = some x ∧ W.heap[w.heap.size + 1]? = some y ∧ W.heap[w.heap.size + 1 + 1]? = some u ∧ Below w.heap.size w W ∧ w.heap.size + 3 = W.heap.size := by
  intro W h
  obtain ⟨h0, h1, B, hs⟩ := alloc2 w x y _ rfl
  generalize (w.alloc x).alloc y = V at *
  subst h
  refine ⟨heap_old h0, heap_old h1, ?_, B.alloc B.size _, by simp; omega⟩
  have := heap_new V u
  rwa [← hs] at this


def qBare (q : Qry) : Qry := { q with cnt := 0, kd := 0, emp := false }
def qCnt (q : Qry) (s : Int) : Qry := { q with cnt := 0, kd := 4, sz := s, al := 0, emp := false }
theorem cut0 : cutR 0 = id := by funext l; exact if_pos rfl
theorem tell_bare {q : Qry} (z : List (Int × Int)) (h : q.tm.length ≤ 32) : tellR (qBare q) z = (turnR q.back (z.filter (passB q)), 0) := by
  have e1 : madeR (qBare q) (z.filter (passB (qBare q))) = (z.filter (passB q), 0) := if_pos rfl
  unfold tellR
  rw [if_pos (show rightQ (qBare q) from ⟨Int.le_refl _, h, fun _ => rfl, fun h => absurd rfl h⟩), e1, if_pos rfl]
  show (cutR 0 _, _) = _
  rw [cut0]; rfl
theorem tell_cnt {q : Qry} {s : Int} (z : List (Int × Int)) (h : q.tm.length ≤ 32) (hs : 1 ≤ s ∧ s ≤ 1000) (ht : okT z) : tellR (qCnt q s) z = (turnR q.back (buckL 4 s 0 (z.filter (passB q))), 0) := by
  have hr : rightB s 0 := ⟨⟨hs.1, by omega⟩, by omega, by omega⟩
  have ht2 : okT (z.filter (passB q)) := fun u hu => ht u (List.mem_filter.1 hu).1
  have e1 : madeR (qCnt q s) (z.filter (passB (qCnt q s))) = (buckL 4 s 0 (z.filter (passB q)), 0) := by
    show madeR (qCnt q s) (z.filter (passB q)) = _
    unfold madeR
    rw [if_neg (show ¬ (qCnt q s).kd = 0 from by show ¬ (4 : Int) = 0; omega), if_neg (show ¬ (qCnt q s).emp = true from by show ¬ false = true; simp)]
    show (buckA 4 s 0 _, (0 : Int)) = _
    rw [buckA_ok ⟨by omega, by omega⟩ hr ht2]
  unfold tellR
  rw [if_pos (show rightQ (qCnt q s) from ⟨Int.le_refl _, h, fun h => absurd h (by show ¬ (4 : Int) = 0; omega), fun _ => ⟨⟨by show (1 : Int) ≤ 4; omega, by show (4 : Int) ≤ 7; omega⟩, hr⟩⟩), e1, if_pos rfl]
  show (cutR 0 _, _) = _
  rw [cut0]; rfl
theorem sum_rev (l : List Int) : l.reverse.sum = l.sum := by
  induction l with
  | nil => rfl
  | cons x r ih => rw [List.reverse_cons, List.sum_append, ih, List.sum_cons, List.sum_cons, List.sum_nil]; omega
theorem turn_sum (b : Bool) (l : List (Int × Int)) : (valsOf (turnR b l)).sum = (valsOf l).sum := by
  cases b
  · rfl
  · show (valsOf l.reverse).sum = _
    unfold valsOf
    rw [List.map_reverse, sum_rev]
theorem turn_pos (b : Bool) (s : Int) (F : List (Int × Int)) : ∀ x ∈ valsOf (turnR b (buckL 4 s 0 F)), 0 ≤ x := by
  intro x hx
  have hx2 : x ∈ valsOf (buckL 4 s 0 F) := by
    cases b
    · exact hx
    · unfold valsOf turnR at hx
      rw [if_pos rfl, List.map_reverse, List.mem_reverse] at hx
      exact hx
  unfold valsOf buckL at hx2
  rw [List.map_map] at hx2
  obtain ⟨g, hg, rfl⟩ := List.mem_map.1 hx2
  show 0 ≤ valK 4 (valsOf g.2)
  unfold valK
  split
  · omega
  · rw [if_neg (by omega), if_neg (by omega), if_neg (by omega), if_pos rfl]; omega
theorem sum_pos (l : List Int) (h : ∀ x ∈ l, 0 ≤ x) : 0 ≤ l.sum := by
  induction l with
  | nil => simp
  | cons x r ih =>
    rw [List.sum_cons]
    have := h x (by simp)
    have := ih (fun y hy => h y (List.mem_cons_of_mem _ hy))
    omega
theorem sum_part (l : List Int) (h : ∀ x ∈ l, 0 ≤ x) (j : Nat) : 0 ≤ (l.take j).sum ∧ (l.take j).sum ≤ l.sum := by
  have h1 := sum_pos (l.take j) (fun x hx => h x (List.mem_of_mem_take hx))
  have h2 := sum_pos (l.drop j) (fun x hx => h x (List.mem_of_mem_drop hx))
  have h3 : l.sum = (l.take j).sum + (l.drop j).sum := by
    rw [← List.sum_append, List.take_append_drop]
  omega

set_option maxRecDepth 100000 in
set_option maxHeartbeats 8000000 in
theorem walk0 (sa : Option Addr) (len cap : Nat) (z : List (Int × Int)) (q : Qry) (a : Option Addr) (n c : Nat) (w : World) (hz : SampAt w sa len cap z) (hi : IntAt w a n c q.tm) :
    Calls Try.prog 7 #[.slice sa len cap, qv q a n c] w fun e w' => e = .returned (.bool true) ∧ Below w.heap.size w w' := by
  have HZ := Lib.hid hz
  have HI := Lib.hid hi
  have HL := Lib.hid hz.1
  have HTM := Lib.hid hi.1
  have B0 := Lib.hid (show ∀ o, Below w.heap.size w (w.alloc o) from fun o => (Below.refl _ _).alloc (Nat.le_refl _) o)
  clear hz hi
  unfold qv
  by_cases hl : 60 < len
  · have hl' : (60 : Int) < (len : Int) := by omega
    go_enter Try.func7, Try.ntmps7
    go_wp2_with fail
    refine (tknown_any _).mono ?_
    rintro e W2 ⟨rfl, b2⟩
    have B2 := (B0.out _).trans (b2.mono (B0.out _).size)
    go_wp2
    go_ret
    exact ⟨rfl, B2⟩
  · have hl' : ¬ (60 : Int) < (len : Int) := by omega
    by_cases hn : 32 < n
    · have hn' : (32 : Int) < (n : Int) := by omega
      go_enter Try.func7, Try.ntmps7
      go_wp2_with fail
      refine (tknown_any _).mono ?_
      rintro e W2 ⟨rfl, b2⟩
      have B2 := (B0.out _).trans (b2.mono (B0.out _).size)
      go_wp2
      go_ret
      exact ⟨rfl, B2⟩
    · have hn' : ¬ (32 : Int) < (n : Int) := by omega
      go_enter Try.func7, Try.ntmps7
      go_wp2
      go_loopw [5] (fun i wr => ∃ j : Nat, j ≤ len ∧ i = .int .i64 (j : Int) ∧ Hid (okT (z.take j)) ∧ wr = w.alloc (.cells #[.int .i64 q.fr, .int .i64 q.to, .bool q.back, .int .i64 q.cnt, .int .i64 q.kd, .int .i64 q.sz, .int .i64 q.al, .bool q.emp, .slice a n c, .bool q.vals, .int .i64 q.lo, .int .i64 q.hi] 25)) (fun i _ => len - (intOf i).toNat)
      case atStart => exact ⟨0, Nat.zero_le _, rfl, Lib.hid (fun u hu => by simp at hu), rfl⟩
      case round =>
        obtain ⟨j, hj, rfl, HT, rfl⟩ := hrel
        by_cases hjn : j < len
        · obtain ⟨p, o, ha, hp, x0, x1⟩ := (HZ.out.keep (B0.out (.cells #[.int .i64 q.fr, .int .i64 q.to, .bool q.back, .int .i64 q.cnt, .int .i64 q.kd, .int .i64 q.sz, .int .i64 q.al, .bool q.emp, .slice a n c, .bool q.vals, .int .i64 q.lo, .int .i64 q.hi] 25))).at_ j hjn
          subst ha
          have HY := Lib.hid (okT_step (z := z) (j := j) (by rw [HL.out]; exact hjn) HT.out)
          generalize tOf z j = t at *
          clear x1
          by_cases h0 : t < 0
          · go_wp2_with fail
            refine (tknown_any _).mono ?_
            rintro e W2 ⟨rfl, b2⟩
            have B2 := (B0.out _).trans (b2.mono (B0.out _).size)
            go_wp2
            go_ret
            exact ⟨rfl, B2⟩
          · by_cases h1 : 1099511627776 < t
            · go_wp2_with fail
              refine (tknown_any _).mono ?_
              rintro e W2 ⟨rfl, b2⟩
              have B2 := (B0.out _).trans (b2.mono (B0.out _).size)
              go_wp2
              go_ret
              exact ⟨rfl, B2⟩
            · have HT2 := Lib.hid (HY.out (decide_eq_true ⟨by omega, by omega⟩))
              go_wp2
              go_roundw
              case rel => exact ⟨j + 1, by omega, by go_num, HT2, by trivial⟩
              case measure => simp [intOf]; omega
        · obtain rfl : len = j := by omega
          have HOK := Lib.hid (show okT z from by have := HT.out; rwa [List.take_of_length_le (by rw [HL.out]; exact Nat.le_refl _)] at this)
          clear HT
          by_cases hs1 : q.sz ≤ 1
          · have hs2 : q.sz ≤ 1000 := by omega
            have HS := Lib.hid (show (1 : Int) ≤ (1 : Int) ∧ (1 : Int) ≤ 1000 from ⟨by omega, by omega⟩)
            go_wp2_with fail
            clear hs1 hs2
            have HA := Lib.hid (alloc3 w (.cells #[.int .i64 q.fr, .int .i64 q.to, .bool q.back, .int .i64 q.cnt, .int .i64 q.kd, .int .i64 q.sz, .int .i64 q.al, .bool q.emp, .slice a n c, .bool q.vals, .int .i64 q.lo, .int .i64 q.hi] 25) (.cells #[.int .i64 q.fr, .int .i64 q.to, .bool q.back, .int .i64 0, .int .i64 0, .int .i64 q.sz, .int .i64 q.al, .bool false, .slice a n c, .bool q.vals, .int .i64 q.lo, .int .i64 q.hi] 25) (.cells #[.int .i64 q.fr, .int .i64 q.to, .bool q.back, .int .i64 0, .int .i64 4, .int .i64 1, .int .i64 0, .bool false, .slice a n c, .bool q.vals, .int .i64 q.lo, .int .i64 q.hi] 25) _ rfl)
            generalize ((w.alloc (.cells #[.int .i64 q.fr, .int .i64 q.to, .bool q.back, .int .i64 q.cnt, .int .i64 q.kd, .int .i64 q.sz, .int .i64 q.al, .bool q.emp, .slice a n c, .bool q.vals, .int .i64 q.lo, .int .i64 q.hi] 25)).alloc (.cells #[.int .i64 q.fr, .int .i64 q.to, .bool q.back, .int .i64 0, .int .i64 0, .int .i64 q.sz, .int .i64 q.al, .bool false, .slice a n c, .bool q.vals, .int .i64 q.lo, .int .i64 q.hi] 25)).alloc (.cells #[.int .i64 q.fr, .int .i64 q.to, .bool q.back, .int .i64 0, .int .i64 4, .int .i64 1, .int .i64 0, .bool false, .slice a n c, .bool q.vals, .int .i64 q.lo, .int .i64 q.hi] 25) = W1 at *
            obtain ⟨hq1, hq2, hq3, B1, s1⟩ := HA.out
            have HCB := Lib.hid (qc_of (q := qBare q) (a := a) (n := n) (c := c) hq2)
            have HCC := Lib.hid (qc_of (q := qCnt q 1) (a := a) (n := n) (c := c) hq3)
            have HZ1 := Lib.hid (HZ.out.keep B1)
            have HI1 := Lib.hid (HI.out.keep B1)
            generalize hqb : w.heap.size = qb at *
            have HQB := Lib.hid hqb
            clear hqb hq1 hq2 hq3 HA B0
            have T := tell_any (qBare q) a n c sa len cap z _ HZ1.out HI1.out (by omega)
            rw [tell_bare z (by rw [HTM.out]; omega)] at T
            refine T.mono ?_
            clear T
            rintro e W2 ⟨a2, n2, p2, rfl, S2, b2⟩
            have B2 := B1.trans (b2.mono (by omega))
            have HZ2 := Lib.hid (HZ1.out.keep b2)
            have HI2 := Lib.hid (HI1.out.keep b2)
            have s2 := b2.size
            obtain ⟨c0, c1, c2, c3, c4, c5, c6, c7, c8, c9, c10, c11⟩ := HCC.out.keep b2 (by omega)
            clear b2 B1
            simp only [qCnt] at c0 c1 c2 c3 c4 c5 c6 c7 c8 c9 c10 c11
            go_wp2_with fail
            clear c0 c1 c2 c3 c4 c5 c6 c7 c8 c9 c10 c11
            have T := tell_any (qCnt q 1) a n c sa len cap z _ HZ2.out HI2.out (by omega)
            rw [tell_cnt z (by rw [HTM.out]; omega) HS.out HOK.out] at T
            refine T.mono ?_
            clear T
            rintro e W3 ⟨a3, n3, p3, rfl, S3, b3⟩
            have B3 := B2.trans (b3.mono (by omega))
            have s3 := b3.size
            clear b3 B2
            have HN2 := Lib.hid (show n2 = (z.filter (passB q)).length from by have := S2.1; rw [turnR_len] at this; exact this.symm)
            have HF60 := Lib.hid (show (z.filter (passB q)).length ≤ 60 from Nat.le_trans (List.length_filter_le _ _) (by rw [HL.out]; omega))
            have HSUM := Lib.hid (show (valsOf (turnR q.back (buckL 4 (1) 0 (z.filter (passB q))))).sum = ((z.filter (passB q)).length : Int) from by rw [turn_sum, buck_count])
            have HPART := Lib.hid (sum_part _ (turn_pos q.back (1) (z.filter (passB q))))
            generalize z.filter (passB q) = F at *
            generalize turnR q.back (buckL 4 (1) 0 F) = L at *
            have HS3 := Lib.hid S3
            have HN3 := Lib.hid S3.1
            have hn3 := S3.2.2.1
            clear S2 S3
            go_wp2
            go_loopw [12, 13] (fun s i wr => ∃ j : Nat, j ≤ n3 ∧ i = .int .i64 (j : Int) ∧ s = .int .i64 (((valsOf L).take j).sum) ∧ wr = W3) (fun _ i _ => n3 - (intOf i).toNat)
            case atStart => exact ⟨0, Nat.zero_le _, rfl, by simp, rfl⟩
            case round =>
              obtain ⟨j, hj, rfl, rfl, rfl⟩ := hrel
              by_cases hjn : j < n3
              · obtain ⟨p, o, ha, hp, x0, x1⟩ := HS3.out.at_ j hjn
                subst ha
                have HV := Lib.hid (vOf_vals L j (by rw [HN3.out]; exact hjn))
                have HV2 := Lib.hid (show ((valsOf L).take (j + 1)).sum = ((valsOf L).take j).sum + vOf L j from by rw [HV.out, List.sum_append, List.sum_cons, List.sum_nil, Int.add_zero])
                have HP1 := Lib.hid (HPART.out (j + 1))
                obtain ⟨hp1, hp2⟩ := HPART.out j
                have hb : -9223372036854775808 ≤ ((valsOf L).take j).sum + vOf L j ∧ ((valsOf L).take j).sum + vOf L j ≤ 9223372036854775807 := by
                  have h1 := HP1.out
                  have h2 := HSUM.out
                  have h3 := HF60.out
                  rw [HV2.out] at h1
                  omega
                obtain ⟨hb1, hb2⟩ := hb
                generalize ((valsOf L).take j).sum = sm at *
                generalize vOf L j = vv at *
                clear x0 hp1 hp2
                go_wp2
                go_roundw
                case rel => exact ⟨j + 1, by omega, by go_num, by rw [HV2.out], by trivial⟩
                case measure => simp [intOf]; omega
              · obtain rfl : n3 = j := by omega
                have HT := Lib.hid (show ((valsOf L).take n3).sum = (n2 : Int) from by rw [List.take_of_length_le (by rw [valsOf_len, HN3.out]; exact Nat.le_refl _), HSUM.out, HN2.out])
                rw [HT.out]
                have tt : ((n2 : Int) == (n2 : Int)) = true := beq_self_eq_true _
                go_wp2_with fail
                refine (tknown_any _).mono ?_
                rintro e W9 ⟨rfl, b9⟩
                have B9 := B3.trans (b9.mono (by omega))
                go_wp2
                go_ret
                exact ⟨rfl, by rw [HQB.out]; exact B9⟩
          · by_cases hs2 : q.sz ≤ 1000
            · skip
              have HS := Lib.hid (show (1 : Int) ≤ (q.sz : Int) ∧ (q.sz : Int) ≤ 1000 from ⟨by omega, by omega⟩)
              go_wp2_with fail
              clear hs1 hs2
              have HA := Lib.hid (alloc3 w (.cells #[.int .i64 q.fr, .int .i64 q.to, .bool q.back, .int .i64 q.cnt, .int .i64 q.kd, .int .i64 q.sz, .int .i64 q.al, .bool q.emp, .slice a n c, .bool q.vals, .int .i64 q.lo, .int .i64 q.hi] 25) (.cells #[.int .i64 q.fr, .int .i64 q.to, .bool q.back, .int .i64 0, .int .i64 0, .int .i64 q.sz, .int .i64 q.al, .bool false, .slice a n c, .bool q.vals, .int .i64 q.lo, .int .i64 q.hi] 25) (.cells #[.int .i64 q.fr, .int .i64 q.to, .bool q.back, .int .i64 0, .int .i64 4, .int .i64 q.sz, .int .i64 0, .bool false, .slice a n c, .bool q.vals, .int .i64 q.lo, .int .i64 q.hi] 25) _ rfl)
              generalize ((w.alloc (.cells #[.int .i64 q.fr, .int .i64 q.to, .bool q.back, .int .i64 q.cnt, .int .i64 q.kd, .int .i64 q.sz, .int .i64 q.al, .bool q.emp, .slice a n c, .bool q.vals, .int .i64 q.lo, .int .i64 q.hi] 25)).alloc (.cells #[.int .i64 q.fr, .int .i64 q.to, .bool q.back, .int .i64 0, .int .i64 0, .int .i64 q.sz, .int .i64 q.al, .bool false, .slice a n c, .bool q.vals, .int .i64 q.lo, .int .i64 q.hi] 25)).alloc (.cells #[.int .i64 q.fr, .int .i64 q.to, .bool q.back, .int .i64 0, .int .i64 4, .int .i64 q.sz, .int .i64 0, .bool false, .slice a n c, .bool q.vals, .int .i64 q.lo, .int .i64 q.hi] 25) = W1 at *
              obtain ⟨hq1, hq2, hq3, B1, s1⟩ := HA.out
              have HCB := Lib.hid (qc_of (q := qBare q) (a := a) (n := n) (c := c) hq2)
              have HCC := Lib.hid (qc_of (q := qCnt q q.sz) (a := a) (n := n) (c := c) hq3)
              have HZ1 := Lib.hid (HZ.out.keep B1)
              have HI1 := Lib.hid (HI.out.keep B1)
              generalize hqb : w.heap.size = qb at *
              have HQB := Lib.hid hqb
              clear hqb hq1 hq2 hq3 HA B0
              have T := tell_any (qBare q) a n c sa len cap z _ HZ1.out HI1.out (by omega)
              rw [tell_bare z (by rw [HTM.out]; omega)] at T
              refine T.mono ?_
              clear T
              rintro e W2 ⟨a2, n2, p2, rfl, S2, b2⟩
              have B2 := B1.trans (b2.mono (by omega))
              have HZ2 := Lib.hid (HZ1.out.keep b2)
              have HI2 := Lib.hid (HI1.out.keep b2)
              have s2 := b2.size
              obtain ⟨c0, c1, c2, c3, c4, c5, c6, c7, c8, c9, c10, c11⟩ := HCC.out.keep b2 (by omega)
              clear b2 B1
              simp only [qCnt] at c0 c1 c2 c3 c4 c5 c6 c7 c8 c9 c10 c11
              go_wp2_with fail
              clear c0 c1 c2 c3 c4 c5 c6 c7 c8 c9 c10 c11
              have T := tell_any (qCnt q q.sz) a n c sa len cap z _ HZ2.out HI2.out (by omega)
              rw [tell_cnt z (by rw [HTM.out]; omega) HS.out HOK.out] at T
              refine T.mono ?_
              clear T
              rintro e W3 ⟨a3, n3, p3, rfl, S3, b3⟩
              have B3 := B2.trans (b3.mono (by omega))
              have s3 := b3.size
              clear b3 B2
              have HN2 := Lib.hid (show n2 = (z.filter (passB q)).length from by have := S2.1; rw [turnR_len] at this; exact this.symm)
              have HF60 := Lib.hid (show (z.filter (passB q)).length ≤ 60 from Nat.le_trans (List.length_filter_le _ _) (by rw [HL.out]; omega))
              have HSUM := Lib.hid (show (valsOf (turnR q.back (buckL 4 (q.sz) 0 (z.filter (passB q))))).sum = ((z.filter (passB q)).length : Int) from by rw [turn_sum, buck_count])
              have HPART := Lib.hid (sum_part _ (turn_pos q.back (q.sz) (z.filter (passB q))))
              generalize z.filter (passB q) = F at *
              generalize turnR q.back (buckL 4 (q.sz) 0 F) = L at *
              have HS3 := Lib.hid S3
              have HN3 := Lib.hid S3.1
              have hn3 := S3.2.2.1
              clear S2 S3
              go_wp2
              go_loopw [12, 13] (fun s i wr => ∃ j : Nat, j ≤ n3 ∧ i = .int .i64 (j : Int) ∧ s = .int .i64 (((valsOf L).take j).sum) ∧ wr = W3) (fun _ i _ => n3 - (intOf i).toNat)
              case atStart => exact ⟨0, Nat.zero_le _, rfl, by simp, rfl⟩
              case round =>
                obtain ⟨j, hj, rfl, rfl, rfl⟩ := hrel
                by_cases hjn : j < n3
                · obtain ⟨p, o, ha, hp, x0, x1⟩ := HS3.out.at_ j hjn
                  subst ha
                  have HV := Lib.hid (vOf_vals L j (by rw [HN3.out]; exact hjn))
                  have HV2 := Lib.hid (show ((valsOf L).take (j + 1)).sum = ((valsOf L).take j).sum + vOf L j from by rw [HV.out, List.sum_append, List.sum_cons, List.sum_nil, Int.add_zero])
                  have HP1 := Lib.hid (HPART.out (j + 1))
                  obtain ⟨hp1, hp2⟩ := HPART.out j
                  have hb : -9223372036854775808 ≤ ((valsOf L).take j).sum + vOf L j ∧ ((valsOf L).take j).sum + vOf L j ≤ 9223372036854775807 := by
                    have h1 := HP1.out
                    have h2 := HSUM.out
                    have h3 := HF60.out
                    rw [HV2.out] at h1
                    omega
                  obtain ⟨hb1, hb2⟩ := hb
                  generalize ((valsOf L).take j).sum = sm at *
                  generalize vOf L j = vv at *
                  clear x0 hp1 hp2
                  go_wp2
                  go_roundw
                  case rel => exact ⟨j + 1, by omega, by go_num, by rw [HV2.out], by trivial⟩
                  case measure => simp [intOf]; omega
                · obtain rfl : n3 = j := by omega
                  have HT := Lib.hid (show ((valsOf L).take n3).sum = (n2 : Int) from by rw [List.take_of_length_le (by rw [valsOf_len, HN3.out]; exact Nat.le_refl _), HSUM.out, HN2.out])
                  rw [HT.out]
                  have tt : ((n2 : Int) == (n2 : Int)) = true := beq_self_eq_true _
                  go_wp2_with fail
                  refine (tknown_any _).mono ?_
                  rintro e W9 ⟨rfl, b9⟩
                  have B9 := B3.trans (b9.mono (by omega))
                  go_wp2
                  go_ret
                  exact ⟨rfl, by rw [HQB.out]; exact B9⟩
            · skip
              have HS := Lib.hid (show (1 : Int) ≤ (1000 : Int) ∧ (1000 : Int) ≤ 1000 from ⟨by omega, by omega⟩)
              go_wp2_with fail
              clear hs1 hs2
              have HA := Lib.hid (alloc3 w (.cells #[.int .i64 q.fr, .int .i64 q.to, .bool q.back, .int .i64 q.cnt, .int .i64 q.kd, .int .i64 q.sz, .int .i64 q.al, .bool q.emp, .slice a n c, .bool q.vals, .int .i64 q.lo, .int .i64 q.hi] 25) (.cells #[.int .i64 q.fr, .int .i64 q.to, .bool q.back, .int .i64 0, .int .i64 0, .int .i64 q.sz, .int .i64 q.al, .bool false, .slice a n c, .bool q.vals, .int .i64 q.lo, .int .i64 q.hi] 25) (.cells #[.int .i64 q.fr, .int .i64 q.to, .bool q.back, .int .i64 0, .int .i64 4, .int .i64 1000, .int .i64 0, .bool false, .slice a n c, .bool q.vals, .int .i64 q.lo, .int .i64 q.hi] 25) _ rfl)
              generalize ((w.alloc (.cells #[.int .i64 q.fr, .int .i64 q.to, .bool q.back, .int .i64 q.cnt, .int .i64 q.kd, .int .i64 q.sz, .int .i64 q.al, .bool q.emp, .slice a n c, .bool q.vals, .int .i64 q.lo, .int .i64 q.hi] 25)).alloc (.cells #[.int .i64 q.fr, .int .i64 q.to, .bool q.back, .int .i64 0, .int .i64 0, .int .i64 q.sz, .int .i64 q.al, .bool false, .slice a n c, .bool q.vals, .int .i64 q.lo, .int .i64 q.hi] 25)).alloc (.cells #[.int .i64 q.fr, .int .i64 q.to, .bool q.back, .int .i64 0, .int .i64 4, .int .i64 1000, .int .i64 0, .bool false, .slice a n c, .bool q.vals, .int .i64 q.lo, .int .i64 q.hi] 25) = W1 at *
              obtain ⟨hq1, hq2, hq3, B1, s1⟩ := HA.out
              have HCB := Lib.hid (qc_of (q := qBare q) (a := a) (n := n) (c := c) hq2)
              have HCC := Lib.hid (qc_of (q := qCnt q 1000) (a := a) (n := n) (c := c) hq3)
              have HZ1 := Lib.hid (HZ.out.keep B1)
              have HI1 := Lib.hid (HI.out.keep B1)
              generalize hqb : w.heap.size = qb at *
              have HQB := Lib.hid hqb
              clear hqb hq1 hq2 hq3 HA B0
              have T := tell_any (qBare q) a n c sa len cap z _ HZ1.out HI1.out (by omega)
              rw [tell_bare z (by rw [HTM.out]; omega)] at T
              refine T.mono ?_
              clear T
              rintro e W2 ⟨a2, n2, p2, rfl, S2, b2⟩
              have B2 := B1.trans (b2.mono (by omega))
              have HZ2 := Lib.hid (HZ1.out.keep b2)
              have HI2 := Lib.hid (HI1.out.keep b2)
              have s2 := b2.size
              obtain ⟨c0, c1, c2, c3, c4, c5, c6, c7, c8, c9, c10, c11⟩ := HCC.out.keep b2 (by omega)
              clear b2 B1
              simp only [qCnt] at c0 c1 c2 c3 c4 c5 c6 c7 c8 c9 c10 c11
              go_wp2_with fail
              clear c0 c1 c2 c3 c4 c5 c6 c7 c8 c9 c10 c11
              have T := tell_any (qCnt q 1000) a n c sa len cap z _ HZ2.out HI2.out (by omega)
              rw [tell_cnt z (by rw [HTM.out]; omega) HS.out HOK.out] at T
              refine T.mono ?_
              clear T
              rintro e W3 ⟨a3, n3, p3, rfl, S3, b3⟩
              have B3 := B2.trans (b3.mono (by omega))
              have s3 := b3.size
              clear b3 B2
              have HN2 := Lib.hid (show n2 = (z.filter (passB q)).length from by have := S2.1; rw [turnR_len] at this; exact this.symm)
              have HF60 := Lib.hid (show (z.filter (passB q)).length ≤ 60 from Nat.le_trans (List.length_filter_le _ _) (by rw [HL.out]; omega))
              have HSUM := Lib.hid (show (valsOf (turnR q.back (buckL 4 (1000) 0 (z.filter (passB q))))).sum = ((z.filter (passB q)).length : Int) from by rw [turn_sum, buck_count])
              have HPART := Lib.hid (sum_part _ (turn_pos q.back (1000) (z.filter (passB q))))
              generalize z.filter (passB q) = F at *
              generalize turnR q.back (buckL 4 (1000) 0 F) = L at *
              have HS3 := Lib.hid S3
              have HN3 := Lib.hid S3.1
              have hn3 := S3.2.2.1
              clear S2 S3
              go_wp2
              go_loopw [12, 13] (fun s i wr => ∃ j : Nat, j ≤ n3 ∧ i = .int .i64 (j : Int) ∧ s = .int .i64 (((valsOf L).take j).sum) ∧ wr = W3) (fun _ i _ => n3 - (intOf i).toNat)
              case atStart => exact ⟨0, Nat.zero_le _, rfl, by simp, rfl⟩
              case round =>
                obtain ⟨j, hj, rfl, rfl, rfl⟩ := hrel
                by_cases hjn : j < n3
                · obtain ⟨p, o, ha, hp, x0, x1⟩ := HS3.out.at_ j hjn
                  subst ha
                  have HV := Lib.hid (vOf_vals L j (by rw [HN3.out]; exact hjn))
                  have HV2 := Lib.hid (show ((valsOf L).take (j + 1)).sum = ((valsOf L).take j).sum + vOf L j from by rw [HV.out, List.sum_append, List.sum_cons, List.sum_nil, Int.add_zero])
                  have HP1 := Lib.hid (HPART.out (j + 1))
                  obtain ⟨hp1, hp2⟩ := HPART.out j
                  have hb : -9223372036854775808 ≤ ((valsOf L).take j).sum + vOf L j ∧ ((valsOf L).take j).sum + vOf L j ≤ 9223372036854775807 := by
                    have h1 := HP1.out
                    have h2 := HSUM.out
                    have h3 := HF60.out
                    rw [HV2.out] at h1
                    omega
                  obtain ⟨hb1, hb2⟩ := hb
                  generalize ((valsOf L).take j).sum = sm at *
                  generalize vOf L j = vv at *
                  clear x0 hp1 hp2
                  go_wp2
                  go_roundw
                  case rel => exact ⟨j + 1, by omega, by go_num, by rw [HV2.out], by trivial⟩
                  case measure => simp [intOf]; omega
                · obtain rfl : n3 = j := by omega
                  have HT := Lib.hid (show ((valsOf L).take n3).sum = (n2 : Int) from by rw [List.take_of_length_le (by rw [valsOf_len, HN3.out]; exact Nat.le_refl _), HSUM.out, HN2.out])
                  rw [HT.out]
                  have tt : ((n2 : Int) == (n2 : Int)) = true := beq_self_eq_true _
                  go_wp2_with fail
                  refine (tknown_any _).mono ?_
                  rintro e W9 ⟨rfl, b9⟩
                  have B9 := B3.trans (b9.mono (by omega))
                  go_wp2
                  go_ret
                  exact ⟨rfl, by rw [HQB.out]; exact B9⟩

theorem walk (a0 : Option Addr) (len0 cap0 : Nat) (z0 : List (Int × Int)) (a1 : Qry) (qa1 : Option Addr) (qn1 qc1 : Nat) (w : World) (w0 : SampAt w a0 len0 cap0 z0) (w1 : Q64 a1) (iw1 : IntAt w qa1 qn1 qc1 a1.tm) :
    Calls Try.prog 7 #[.slice a0 len0 cap0, qv a1 qa1 qn1 qc1] w fun e w' => e = .returned (.bool true) ∧ Below w.heap.size w w' := walk0 a0 len0 cap0 z0 a1 qa1 qn1 qc1 w w0 iw1

set_option maxRecDepth 100000 in
theorem lifted (os : Os) (started : os.Started) (H : Type) (enc : TypeId × Value → H) :
    ReturnsInHanded {} Try.checked os 7 .any (Rows.rowsTotalsSpec.pre6 enc Try.prog Try.f7 Rows.rowsTotalsRow.domain false) (Rows.rowsTotalsSpec.post enc Try.prog Try.f7 false true false false) := by
  refine returnsInHanded_of_change (C := Try.checked) own started (by kernel_rfl) Try.func7
    (ChangeSpec.witness6 (enc := enc) (C := Try.checked) false ⟨#[], #[.slice none 0 0, .agg #[.int .i64 0, .int .i64 0, .bool false, .int .i64 0, .int .i64 0, .int .i64 0, .int .i64 0, .bool false, .slice none 0 0, .bool false, .int .i64 0, .int .i64 0]], []⟩ 8 (by kernel_rfl) (by kernel_rfl) (by kernel_rfl) (by kernel_rfl)) ?_
  intro W base args ds gs before hval0 hW hcnd _
  have hval : ∀ (j : Nat) t v, Try.f7.params[j]? = some t → args[j]? = some v → Value.okWide Try.prog W .any base t v := hval0
  have hW' := hW
  obtain ⟨p, q, hA0, hV, rfl, hfz, hnd⟩ := hW
  have hA : DataW.TrodAll enc Try.prog W 0 (fun _ => true) true Try.f7.params.toList args.toList ds p := hA0
  rw [Try.params7] at hA hval
  obtain ⟨v0, vs0, d0, ds0, p0, q0, hargs, rfl, rfl, h0, r0⟩ := trodAll_cons hA
  obtain ⟨v1, vs1, d1, ds1, p1, q1, rfl, rfl, rfl, h1, r1⟩ := trodAll_cons r0
  obtain ⟨rfl, rfl, rfl⟩ := trodAll_nil r1
  obtain rfl : args = #[v0, v1] := by cases args; simp_all
  obtain ⟨rfl, rfl⟩ := trodVars_none hV
  obtain ⟨a0, len0, cap0, rfl⟩ := okWide_slice Try.underlying22 (hval 0 22 v0 rfl rfl)
  have k0 := h0
  have lt0 : ∀ x ∈ p0, x.block < W.heap.size := by obtain ⟨m, hm⟩ := k0; exact DataW.trod_lt m _ _ _ hm
  obtain ⟨z0, w0⟩ := open_samps h0
  have k1 := h1
  have lt1 : ∀ x ∈ p1, x.block < W.heap.size := by obtain ⟨m, hm⟩ := k1; exact DataW.trod_lt m _ _ _ hm
  obtain ⟨a1, qa1, qn1, qc1, rfl, w1, iw1⟩ := open_qry (hval 1 25 v1 rfl rfl) h1
  clear hA0 hval0
  refine (walk a0 len0 cap0 z0 a1 qa1 qn1 qc1 W w0 w1 iw1).mono fun e W' ⟨he, bel⟩ => ?_
  subst he
  exact ⟨_, rfl, _, _, _, [], _, [], hW', trodAll_mk1 (shut_bool Try.underlying4 _), (trodAll_cons_mk (Below.trod laidOut (by kernel_rfl) (of_decide_eq_true (by kernel_rfl)) k0 bel lt0) (trodAll_cons_mk (Below.trod laidOut (by kernel_rfl) (of_decide_eq_true (by kernel_rfl)) k1 bel lt1) trodAll_mk0)), rfl, bel.frame _, fun h => by cases h⟩

theorem over : Rows.rowsTotalsRow.holds Try.pinned (OpenSpec.ofChange Rows.rowsTotalsSpec) :=
  OpenClaim.holds_of_wide 7 Try.f7 rfl rfl rfl rfl rfl rfl rfl ⟨rfl, rfl, rfl, rfl, rfl⟩ rfl rfl rfl rfl rfl (by kernel_rfl) Try.func7 (by kernel_rfl)
    (of_decide_eq_true (by kernel_rfl)) (by unfold Func.isWrapper; first | (rw [if_pos (by decide +kernel)]; kernel_rfl) | (rw [if_neg (by decide +kernel)]; exact ⟨rfl, rfl⟩))
    (fun os started H enc _ => lifted os started H enc)

theorem proved : Rows.RowsTotalsSaid := over
end rowsTotals
theorem rowsTotals_holds : Rows.RowsTotalsSaid := rowsTotals.proved
#print axioms rowsTotals_holds
end Go.Proofs.Ytpahohnpcfgegaa
