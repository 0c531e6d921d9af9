/-
  The statement 'RowsCuts' of layer 7: a Count tells the first ones of what is told without it; Back the same the other way round.
  No condition on the arguments.
-/
import Derived.Test.YtpahohnpcfgegaaTKnown
import Derived.Test.YtpahohnpcfgegaaTArgs
import Derived.Test.YtpahohnpcfgegaaRows
import Derived.Test.YtpahohnpcfgegaaTRef
import Derived.ChangeOld
namespace Go.Proofs.Ytpahohnpcfgegaa
namespace rowsCuts
open Go.ChangeShapes Go.WideShapes Go.ChangeAt Go.RowKit
set_option linter.unusedVariables false
set_option linter.unusedSimpArgs false

theorem own : ownKnob Try.prog.godebug = none := by kernel_rfl


/-- All of it; and that the other way round. -/
def qAll (q : Qry) : Qry := { q with cnt := 0 }
def qBack (q : Qry) : Qry := { q with cnt := 0, back := !q.back }
theorem all_right {q : Qry} : rightQ q ↔ 0 ≤ q.cnt ∧ rightQ (qAll q) := ⟨fun h => ⟨h.1, Int.le_refl _, h.2⟩, fun h => ⟨h.1, h.2.2⟩⟩
theorem back_right {q : Qry} : rightQ (qBack q) ↔ rightQ (qAll q) := Iff.rfl
theorem tell_bad {q : Qry} {z : List (Int × Int)} (h : (tellR q z).2 ≠ 0) : (tellR q z).1 = [] := by
  unfold tellR at h ⊢
  split
  · split
    · rename_i h1 h2
      rw [if_pos h1, if_pos h2] at h
      exact absurd rfl h
    · rfl
  · rfl
theorem turn_turn (b : Bool) (l : List (Int × Int)) : turnR (!b) l = (turnR b l).reverse := by
  cases b <;> simp [turnR]
/-- What is told of all the other way round. -/
theorem tell_back (q : Qry) (z : List (Int × Int)) : tellR (qBack q) z = ((tellR (qAll q) z).1.reverse, (tellR (qAll q) z).2) := by
  have e1 : madeR (qBack q) (z.filter (passB (qBack q))) = madeR (qAll q) (z.filter (passB (qAll q))) := rfl
  unfold tellR
  rw [e1]
  by_cases h : rightQ (qAll q)
  · rw [if_pos (back_right.2 h), if_pos h]
    by_cases h2 : (madeR (qAll q) (z.filter (passB (qAll q)))).2 = 0
    · rw [if_pos h2, if_pos h2]
      have e3 : cutR (qBack q).cnt = id := by funext l; exact if_pos rfl
      have e4 : cutR (qAll q).cnt = id := by funext l; exact if_pos rfl
      rw [e3, e4]
      exact Prod.ext (turn_turn q.back _) rfl
    · rw [if_neg h2, if_neg h2]; rfl
  · rw [if_neg (fun h' => h (back_right.1 h')), if_neg h]; rfl
/-- What is told of the first ones. -/
theorem tell_cut {q : Qry} {z : List (Int × Int)} (h : (tellR q z).2 = 0) : (tellR (qAll q) z).2 = 0 ∧ 0 ≤ q.cnt ∧ (tellR q z).1 = cutR q.cnt (tellR (qAll q) z).1 := by
  have e1 : madeR (qAll q) (z.filter (passB (qAll q))) = madeR q (z.filter (passB q)) := rfl
  unfold tellR at h ⊢
  by_cases h1 : rightQ q
  · rw [if_pos h1] at h ⊢
    by_cases h2 : (madeR q (z.filter (passB q))).2 = 0
    · have e4 : cutR (qAll q).cnt = id := by funext l; exact if_pos rfl
      rw [if_pos h2, if_pos (all_right.1 h1).2, e1, if_pos h2, e4]
      exact ⟨rfl, h1.1, rfl⟩
    · rw [if_neg h2] at h
      exact absurd h h2
  · rw [if_neg h1] at h
    cases h
theorem tell_len (q : Qry) (z : List (Int × Int)) (hl : z.length ≤ 10000) : (tellR (qAll q) z).1.length ≤ 10000 := by
  unfold tellR
  split
  · split
    · have e4 : cutR (qAll q).cnt = id := by funext l; exact if_pos rfl
      rw [e4]
      show (turnR _ _).length ≤ 10000
      rw [turnR_len]
      exact madeR_len (Nat.le_trans (List.length_filter_le _ _) hl)
    · simp
  · simp

theorem alloc3 (w : World) (x y u : Obj) : ∀ W, ((w.alloc x).alloc y).alloc u = W → W.heap[w.heap.size]? = some x ∧ W.heap[w.heap.size + 1]? = some y ∧ W.heap[w.heap.size + 1 + 1]? = some u ∧ Below w.heap.size w W ∧ w.heap.size + 3 = W.heap.size := by
  intro W h
  obtain ⟨h0, h1, B, hs⟩ := alloc2 w x y _ rfl
  generalize (w.alloc x).alloc y = V at *
  subst h
  refine ⟨heap_old h0, heap_old h1, ?_, B.alloc B.size _, by simp; omega⟩
  have := heap_new V u
  rwa [← hs] at this

set_option maxRecDepth 100000 in
set_option maxHeartbeats 8000000 in
theorem walk0 (sa : Option Addr) (len cap : Nat) (z : List (Int × Int)) (q : Qry) (a : Option Addr) (n c : Nat) (w : World) (hz : SampAt w sa len cap z) (hi : IntAt w a n c q.tm) :
    Calls Try.prog 5 #[.slice sa len cap, qv q a n c] w fun e w' => e = .returned (.bool true) ∧ Below w.heap.size w w' := by
  have HZ := Lib.hid hz
  have HI := Lib.hid hi
  have B0 := Lib.hid (show ∀ o, Below w.heap.size w (w.alloc o) from fun o => (Below.refl _ _).alloc (Nat.le_refl _) o)
  clear hz hi
  unfold qv
  by_cases hl : 60 < len
  · have hl' : (60 : Int) < (len : Int) := by omega
    go_enter Try.func5, Try.ntmps5
    go_wp2_with fail
    refine (tknown_any _).mono ?_
    rintro e W2 ⟨rfl, b2⟩
    have B2 := (B0.out _).trans (b2.mono (B0.out _).size)
    go_wp2
    go_ret
    exact ⟨rfl, B2⟩
  · have hl' : ¬ (60 : Int) < (len : Int) := by omega
    by_cases hn : 60 < n
    · have hn' : (60 : Int) < (n : Int) := by omega
      go_enter Try.func5, Try.ntmps5
      go_wp2_with fail
      refine (tknown_any _).mono ?_
      rintro e W2 ⟨rfl, b2⟩
      have B2 := (B0.out _).trans (b2.mono (B0.out _).size)
      go_wp2
      go_ret
      exact ⟨rfl, B2⟩
    · have hn' : ¬ (60 : Int) < (n : Int) := by omega
      go_enter Try.func5, Try.ntmps5
      go_wp2_with fail
      have HA := Lib.hid (alloc3 w (.cells #[.int .i64 q.fr, .int .i64 q.to, .bool q.back, .int .i64 q.cnt, .int .i64 q.kd, .int .i64 q.sz, .int .i64 q.al, .bool q.emp, .slice a n c, .bool q.vals, .int .i64 q.lo, .int .i64 q.hi] 25) (.cells #[.int .i64 q.fr, .int .i64 q.to, .bool q.back, .int .i64 0, .int .i64 q.kd, .int .i64 q.sz, .int .i64 q.al, .bool q.emp, .slice a n c, .bool q.vals, .int .i64 q.lo, .int .i64 q.hi] 25) (.cells #[.int .i64 q.fr, .int .i64 q.to, .bool (!q.back), .int .i64 0, .int .i64 q.kd, .int .i64 q.sz, .int .i64 q.al, .bool q.emp, .slice a n c, .bool q.vals, .int .i64 q.lo, .int .i64 q.hi] 25) _ rfl)
      generalize ((w.alloc (.cells #[.int .i64 q.fr, .int .i64 q.to, .bool q.back, .int .i64 q.cnt, .int .i64 q.kd, .int .i64 q.sz, .int .i64 q.al, .bool q.emp, .slice a n c, .bool q.vals, .int .i64 q.lo, .int .i64 q.hi] 25)).alloc (.cells #[.int .i64 q.fr, .int .i64 q.to, .bool q.back, .int .i64 0, .int .i64 q.kd, .int .i64 q.sz, .int .i64 q.al, .bool q.emp, .slice a n c, .bool q.vals, .int .i64 q.lo, .int .i64 q.hi] 25)).alloc (.cells #[.int .i64 q.fr, .int .i64 q.to, .bool (!q.back), .int .i64 0, .int .i64 q.kd, .int .i64 q.sz, .int .i64 q.al, .bool q.emp, .slice a n c, .bool q.vals, .int .i64 q.lo, .int .i64 q.hi] 25) = W1 at *
      obtain ⟨hq1, hq2, hq3, B1, s1⟩ := HA.out
      have HCA := Lib.hid (qc_of (q := q) (a := a) (n := n) (c := c) hq1)
      have HCB := Lib.hid (qc_of (q := qAll q) (a := a) (n := n) (c := c) hq2)
      have HCC := Lib.hid (qc_of (q := qBack q) (a := a) (n := n) (c := c) hq3)
      have HZ1 := Lib.hid (HZ.out.keep B1)
      have HI1 := Lib.hid (HI.out.keep B1)
      generalize hqb : w.heap.size = qb at *
      have HQB := Lib.hid hqb
      clear hqb hq1 hq2 hq3 HA B0
      refine (tell_any q a n c sa len cap z _ HZ1.out HI1.out (by omega)).mono ?_
      rintro e W2 ⟨a2, n2, p2, rfl, S2, b2⟩
      have B2 := B1.trans (b2.mono (by omega))
      have HZ2 := Lib.hid (HZ1.out.keep b2)
      have HI2 := Lib.hid (HI1.out.keep b2)
      have s2 := b2.size
      obtain ⟨c0, c1, c2, c3, c4, c5, c6, c7, c8, c9, c10, c11⟩ := HCB.out.keep b2 (by omega)
      have HCA2 := Lib.hid (HCA.out.keep b2 (by omega))
      have HCC2 := Lib.hid (HCC.out.keep b2 (by omega))
      clear b2 B1
      simp only [qAll] at c0 c1 c2 c3 c4 c5 c6 c7 c8 c9 c10 c11
      go_wp2_with fail
      clear c0 c1 c2 c3 c4 c5 c6 c7 c8 c9 c10 c11
      refine (tell_any (qAll q) a n c sa len cap z _ HZ2.out HI2.out (by omega)).mono ?_
      rintro e W3 ⟨a3, n3, p3, rfl, S3, b3⟩
      have B3 := B2.trans (b3.mono (by omega))
      have HZ3 := Lib.hid (HZ2.out.keep b3)
      have HI3 := Lib.hid (HI2.out.keep b3)
      have s3 := b3.size
      obtain ⟨c0, c1, c2, c3, c4, c5, c6, c7, c8, c9, c10, c11⟩ := HCC2.out.keep b3 (by omega)
      have HCA3 := Lib.hid (HCA2.out.keep b3 (by omega))
      replace S2 := S2.keep b3
      clear b3 B2
      simp only [qBack] at c0 c1 c2 c3 c4 c5 c6 c7 c8 c9 c10 c11
      go_wp2_with fail
      clear c0 c1 c2 c3 c4 c5 c6 c7 c8 c9 c10 c11
      refine (tell_any (qBack q) a n c sa len cap z _ HZ3.out HI3.out (by omega)).mono ?_
      rintro e W4 ⟨a4, n4, p4, rfl, S4, b4⟩
      have B4 := B3.trans (b4.mono (by omega))
      have s4 := b4.size
      obtain ⟨c0, c1, c2, c3, c4, c5, c6, c7, c8, c9, c10, c11⟩ := HCA3.out.keep b4 (by omega)
      replace S2 := S2.keep b4
      replace S3 := S3.keep b4
      clear b4 B3
      rw [tell_back] at S4 ⊢
      have HBAD := Lib.hid (tell_bad (q := q) (z := z))
      have HCUT := Lib.hid (tell_cut (q := q) (z := z))
      have HLEN := Lib.hid (tell_len q z (by rw [HZ.out.1]; omega))
      generalize tellR q z = A at *
      generalize tellR (qAll q) z = M at *
      obtain ⟨A, eA⟩ := A
      obtain ⟨M, eM⟩ := M
      simp only at S2 S3 S4 HBAD HCUT HLEN
      by_cases hA : eA = 0
      · subst hA
        obtain ⟨hM, hcn, hcut⟩ := HCUT.out rfl
        subst hM
        have HAC := Lib.hid hcut
        have HCN := Lib.hid hcn
        have hl3 := S3.1
        clear hcut HCUT HBAD hcn
        by_cases hc0 : q.cnt = 0
        · have tc : ¬ 0 < q.cnt := by omega
          have hA : A = M := by rw [HAC.out]; exact if_pos hc0
          subst hA
          clear hc0 HAC hl3
          have hcap : n3 ≤ p3 := S3.2.1
          go_wp2_with fail
          refine (same_any _ _ _ _ _ _ _ _ W4 S2 S3).mono ?_
          rintro e W5 ⟨rfl, dd⟩
          rw [decide_eq_true rfl]
          have b5 := dd.below
          have B5 := B4.trans (b5.mono (by omega))
          have s5 := b5.size
          replace S3 := S3.keep b5
          replace S4 := S4.keep b5
          clear b5 dd c0 c1 c2 c3 c4 c5 c6 c7 c8 c9 c10 c11 S2
          go_wp2_with fail
          have HM64 := Lib.hid S3.2.2.2.1
          refine (turned7_any a3 n3 p3 A W5 S3 (by have := HLEN.out; have := S3.1; omega)).mono ?_
          rintro e W6 ⟨v6, rfl, o6, b6⟩
          obtain ⟨a6, c6, rfl, S6⟩ := row_samp (z := A.reverse) (fun u hu => HM64.out u (List.mem_reverse.1 hu)) (by have := HLEN.out; rw [List.length_reverse]; omega) o6
          have B6 := B5.trans (b6.mono (by omega))
          have s6 := b6.size
          replace S4 := S4.keep b6
          clear o6 b6 S3
          generalize A.reverse = R at *
          go_wp2_with fail
          refine (same_any _ _ _ _ _ _ _ _ W6 S4 S6).mono ?_
          rintro e W7 ⟨rfl, dd⟩
          rw [decide_eq_true rfl]
          have b7 := dd.below
          have B7 := B6.trans (b7.mono (by omega))
          have s7 := b7.size
          clear b7 dd S4 S6
          go_wp2_with fail
          refine (tknown_any _).mono ?_
          rintro e W9 ⟨rfl, b9⟩
          have B9 := B7.trans (b9.mono (by omega))
          go_wp2
          go_ret
          exact ⟨rfl, by rw [HQB.out]; exact B9⟩
        · obtain ⟨k, hk⟩ : ∃ k : Nat, q.cnt = (k : Int) := ⟨q.cnt.toNat, by have := HCN.out; omega⟩
          have tc : 0 < q.cnt := by have := HCN.out; omega
          have hA : A = M.take k := by rw [HAC.out]; unfold cutR; rw [if_neg hc0, hk]; rfl
          by_cases hle : k < n3
          · have hmin : ¬ (n3 : Int) ≤ q.cnt := by omega
            obtain ⟨a5, hs5, S5⟩ := samp_to S3 k (by omega)
            rw [← hk] at hs5
            rw [← hA] at S5
            clear hc0 HAC hA hk hle hl3
            go_wp2_with fail
            clear hs5
            refine (same_any _ _ _ _ _ _ _ _ W4 S2 S5).mono ?_
            rintro e W5 ⟨rfl, dd⟩
            rw [decide_eq_true rfl]
            have b5 := dd.below
            have B5 := B4.trans (b5.mono (by omega))
            have s5 := b5.size
            replace S3 := S3.keep b5
            replace S4 := S4.keep b5
            clear b5 dd c0 c1 c2 c3 c4 c5 c6 c7 c8 c9 c10 c11 S2
            go_wp2_with fail
            have HM64 := Lib.hid S3.2.2.2.1
            refine (turned7_any a3 n3 p3 M W5 S3 (by have := HLEN.out; have := S3.1; omega)).mono ?_
            rintro e W6 ⟨v6, rfl, o6, b6⟩
            obtain ⟨a6, c6, rfl, S6⟩ := row_samp (z := M.reverse) (fun u hu => HM64.out u (List.mem_reverse.1 hu)) (by have := HLEN.out; rw [List.length_reverse]; omega) o6
            have B6 := B5.trans (b6.mono (by omega))
            have s6 := b6.size
            replace S4 := S4.keep b6
            clear o6 b6 S3
            generalize M.reverse = R at *
            go_wp2_with fail
            refine (same_any _ _ _ _ _ _ _ _ W6 S4 S6).mono ?_
            rintro e W7 ⟨rfl, dd⟩
            rw [decide_eq_true rfl]
            have b7 := dd.below
            have B7 := B6.trans (b7.mono (by omega))
            have s7 := b7.size
            clear b7 dd S4 S6
            go_wp2_with fail
            refine (tknown_any _).mono ?_
            rintro e W9 ⟨rfl, b9⟩
            have B9 := B7.trans (b9.mono (by omega))
            go_wp2
            go_ret
            exact ⟨rfl, by rw [HQB.out]; exact B9⟩
          · have hmin : (n3 : Int) ≤ q.cnt := by omega
            have hA : A = M := by rw [hA, List.take_of_length_le (by omega)]
            subst hA
            clear hc0 HAC hk hle hl3
            have hcap : n3 ≤ p3 := S3.2.1
            go_wp2_with fail
            refine (same_any _ _ _ _ _ _ _ _ W4 S2 S3).mono ?_
            rintro e W5 ⟨rfl, dd⟩
            rw [decide_eq_true rfl]
            have b5 := dd.below
            have B5 := B4.trans (b5.mono (by omega))
            have s5 := b5.size
            replace S3 := S3.keep b5
            replace S4 := S4.keep b5
            clear b5 dd c0 c1 c2 c3 c4 c5 c6 c7 c8 c9 c10 c11 S2
            go_wp2_with fail
            have HM64 := Lib.hid S3.2.2.2.1
            refine (turned7_any a3 n3 p3 A W5 S3 (by have := HLEN.out; have := S3.1; omega)).mono ?_
            rintro e W6 ⟨v6, rfl, o6, b6⟩
            obtain ⟨a6, c6, rfl, S6⟩ := row_samp (z := A.reverse) (fun u hu => HM64.out u (List.mem_reverse.1 hu)) (by have := HLEN.out; rw [List.length_reverse]; omega) o6
            have B6 := B5.trans (b6.mono (by omega))
            have s6 := b6.size
            replace S4 := S4.keep b6
            clear o6 b6 S3
            generalize A.reverse = R at *
            go_wp2_with fail
            refine (same_any _ _ _ _ _ _ _ _ W6 S4 S6).mono ?_
            rintro e W7 ⟨rfl, dd⟩
            rw [decide_eq_true rfl]
            have b7 := dd.below
            have B7 := B6.trans (b7.mono (by omega))
            have s7 := b7.size
            clear b7 dd S4 S6
            go_wp2_with fail
            refine (tknown_any _).mono ?_
            rintro e W9 ⟨rfl, b9⟩
            have B9 := B7.trans (b9.mono (by omega))
            go_wp2
            go_ret
            exact ⟨rfl, by rw [HQB.out]; exact B9⟩
      · have hE := HBAD.out hA
        have hn2 : n2 = 0 := by have := S2.1; rw [hE] at this; exact this.symm
        subst hn2
        have tA : (eA != 0) = true := by rw [bne_iff_ne]; exact hA
        have tA2 : (eA == 0) = false := beq_eq_false_iff_ne.2 hA
        clear HCUT HBAD hE hA
        by_cases hM : eM = 0
        · subst hM
          go_wp2_with fail
          refine (tknown_any _).mono ?_
          rintro e W9 ⟨rfl, b9⟩
          have B9 := B4.trans (b9.mono (by omega))
          clear c0 c1 c2 c3 c4 c5 c6 c7 c8 c9 c10 c11
          go_wp2
          go_ret
          exact ⟨rfl, by rw [HQB.out]; exact B9⟩
        · have tM : (eM != 0) = true := by rw [bne_iff_ne]; exact hM
          have tM2 : (eM == 0) = false := beq_eq_false_iff_ne.2 hM
          clear hM
          go_wp2_with fail
          refine (tknown_any _).mono ?_
          rintro e W9 ⟨rfl, b9⟩
          have B9 := B4.trans (b9.mono (by omega))
          clear c0 c1 c2 c3 c4 c5 c6 c7 c8 c9 c10 c11
          go_wp2
          go_ret
          exact ⟨rfl, by rw [HQB.out]; exact B9⟩

theorem walk (a0 : Option Addr) (len0 cap0 : Nat) (z0 : List (Int × Int)) (a1 : Qry) (qa1 : Option Addr) (qn1 qc1 : Nat) (w : World) (w0 : SampAt w a0 len0 cap0 z0) (w1 : Q64 a1) (iw1 : IntAt w qa1 qn1 qc1 a1.tm) :
    Calls Try.prog 5 #[.slice a0 len0 cap0, qv a1 qa1 qn1 qc1] w fun e w' => e = .returned (.bool true) ∧ Below w.heap.size w w' := walk0 a0 len0 cap0 z0 a1 qa1 qn1 qc1 w w0 iw1

set_option maxRecDepth 100000 in
theorem lifted (os : Os) (started : os.Started) (H : Type) (enc : TypeId × Value → H) :
    ReturnsInHanded {} Try.checked os 5 .any (Rows.rowsCutsSpec.pre6 enc Try.prog Try.f5 Rows.rowsCutsRow.domain false) (Rows.rowsCutsSpec.post enc Try.prog Try.f5 false true false false) := by
  refine returnsInHanded_of_change (C := Try.checked) own started (by kernel_rfl) Try.func5
    (ChangeSpec.witness6 (enc := enc) (C := Try.checked) false ⟨#[], #[.slice none 0 0, .agg #[.int .i64 0, .int .i64 0, .bool false, .int .i64 0, .int .i64 0, .int .i64 0, .int .i64 0, .bool false, .slice none 0 0, .bool false, .int .i64 0, .int .i64 0]], []⟩ 8 (by kernel_rfl) (by kernel_rfl) (by kernel_rfl) (by kernel_rfl)) ?_
  intro W base args ds gs before hval0 hW hcnd _
  have hval : ∀ (j : Nat) t v, Try.f5.params[j]? = some t → args[j]? = some v → Value.okWide Try.prog W .any base t v := hval0
  have hW' := hW
  obtain ⟨p, q, hA0, hV, rfl, hfz, hnd⟩ := hW
  have hA : DataW.TrodAll enc Try.prog W 0 (fun _ => true) true Try.f5.params.toList args.toList ds p := hA0
  rw [Try.params5] at hA hval
  obtain ⟨v0, vs0, d0, ds0, p0, q0, hargs, rfl, rfl, h0, r0⟩ := trodAll_cons hA
  obtain ⟨v1, vs1, d1, ds1, p1, q1, rfl, rfl, rfl, h1, r1⟩ := trodAll_cons r0
  obtain ⟨rfl, rfl, rfl⟩ := trodAll_nil r1
  obtain rfl : args = #[v0, v1] := by cases args; simp_all
  obtain ⟨rfl, rfl⟩ := trodVars_none hV
  obtain ⟨a0, len0, cap0, rfl⟩ := okWide_slice Try.underlying22 (hval 0 22 v0 rfl rfl)
  have k0 := h0
  have lt0 : ∀ x ∈ p0, x.block < W.heap.size := by obtain ⟨m, hm⟩ := k0; exact DataW.trod_lt m _ _ _ hm
  obtain ⟨z0, w0⟩ := open_samps h0
  have k1 := h1
  have lt1 : ∀ x ∈ p1, x.block < W.heap.size := by obtain ⟨m, hm⟩ := k1; exact DataW.trod_lt m _ _ _ hm
  obtain ⟨a1, qa1, qn1, qc1, rfl, w1, iw1⟩ := open_qry (hval 1 25 v1 rfl rfl) h1
  clear hA0 hval0
  refine (walk a0 len0 cap0 z0 a1 qa1 qn1 qc1 W w0 w1 iw1).mono fun e W' ⟨he, bel⟩ => ?_
  subst he
  exact ⟨_, rfl, _, _, _, [], _, [], hW', trodAll_mk1 (shut_bool Try.underlying4 _), (trodAll_cons_mk (Below.trod laidOut (by kernel_rfl) (of_decide_eq_true (by kernel_rfl)) k0 bel lt0) (trodAll_cons_mk (Below.trod laidOut (by kernel_rfl) (of_decide_eq_true (by kernel_rfl)) k1 bel lt1) trodAll_mk0)), rfl, bel.frame _, fun h => by cases h⟩

theorem over : Rows.rowsCutsRow.holds Try.pinned (OpenSpec.ofChange Rows.rowsCutsSpec) :=
  OpenClaim.holds_of_wide 5 Try.f5 rfl rfl rfl rfl rfl rfl rfl ⟨rfl, rfl, rfl, rfl, rfl⟩ rfl rfl rfl rfl rfl (by kernel_rfl) Try.func5 (by kernel_rfl)
    (of_decide_eq_true (by kernel_rfl)) (by unfold Func.isWrapper; first | (rw [if_pos (by decide +kernel)]; kernel_rfl) | (rw [if_neg (by decide +kernel)]; exact ⟨rfl, rfl⟩))
    (fun os started H enc _ => lifted os started H enc)

theorem proved : Rows.RowsCutsSaid := over
end rowsCuts
theorem rowsCuts_holds : Rows.RowsCutsSaid := rowsCuts.proved
#print axioms rowsCuts_holds
end Go.Proofs.Ytpahohnpcfgegaa
