/-
  Contracts of the document's own answer for layer 7: Right, Pass; of layer 5's Turned; of the statements' Plain.
  Condition (Turned): at most 20000 samples.
-/
import Derived.Test.YtpahohnpcfgegaaTTell
import Derived.Test.YtpahohnpcfgegaaARName
import Derived.Test.YtpahohnpcfgegaaARTime
import Derived.Laws.Rows
namespace Go.Proofs.Ytpahohnpcfgegaa
open Go.RowKit
set_option linter.unusedVariables false
set_option linter.unusedSimpArgs false

theorem drop_rev7 (z : List (Int × Int)) (k : Nat) (h : k < z.length) : (z.drop k).reverse = (z.drop (k + 1)).reverse ++ [(tOf z k, vOf z k)] := by
  rw [List.drop_eq_getElem_cons h, List.reverse_cons, pair_at z k h]
set_option maxRecDepth 100000 in
set_option maxHeartbeats 4000000 in
theorem turned7_any (a : Option Addr) (len cap : Nat) (z : List (Int × Int)) (w : World) (hz : SampAt w a len cap z) (hl : len ≤ 20000) :
    Calls Try.prog 20 #[.slice a len cap] w (RowP z.reverse w) := by
  have HLN := Lib.hid hz.1
  have HL := Lib.hid hz
  clear hz
  go_enter Try.func20, Try.ntmps20
  go_wp2_with fail
  go_loopw [3, 4] (fun o i wr => ∃ j n : Nat, j ≤ len ∧ n + j = len ∧ i = .int .i64 ((j : Int) - 1) ∧ wr.ownsRow w.heap.size 27 2 o n (smpCells (z.drop j).reverse) ∧ Below w.heap.size w wr) (fun _ i _ => (intOf i + 1).toNat)
  case atStart => exact ⟨len, 0, Nat.le_refl _, by omega, by go_num, by rw [List.drop_of_length_le (by rw [HLN.out]; exact Nat.le_refl _)]; exact World.ownsRow_nil _ _ _ _, Below.refl _ _⟩
  case round =>
    obtain ⟨j, n, hj, hn, rfl, hown, B2⟩ := hrel
    have s2 := B2.size
    cases j with
    | zero =>
      have hlt : ¬ (((0 : Nat) : Int) - 1 ≥ 0) := by omega
      obtain rfl : n = len := by omega
      have HR := Lib.hid (show z.reverse.length = n from by rw [List.length_reverse]; exact HLN.out)
      go_wp2
      go_ret
      exact ⟨_, rfl, by rw [HR.out]; exact hown, B2⟩
    | succ k =>
      have hk : ((k + 1 : Nat) : Int) - 1 = (k : Int) := by omega
      rw [hk]
      have hge : (k : Int) ≥ 0 := by omega
      have hk0 : (0 : Int) ≤ (k : Int) := by omega
      have hk1 : (k : Int) < (len : Int) := by omega
      obtain ⟨q, o, rfl, hq, x0, x1⟩ := (HL.out.keep B2).at_ k (by omega)
      have HT := Lib.hid (drop_rev7 z k (by rw [HLN.out]; omega))
      generalize tOf z k = T at *
      generalize vOf z k = V at *
      obtain ⟨i0, hi, hz0, hz1, hz2⟩ := info_parts info_samp
      clear hk
      go_wp2_with (at_builtin; refine wpList_append_own _ rfl _ _ 22 rfl w.heap.size 27 i0 _ 2 16 Try.underlying22 hi hz0 hz1 hz2 rfl (by decide) _ _ _ rfl (hown.alloc _) ⟨wr.heap.size, 0, none⟩ 1 1 [.int .i64 T, .int .i64 V] rfl rfl (two_cells _ _ _ _) (smp_one _ _) (by unfold maxLen; omega) (by omega) (by simp; omega) ?_)
      intro v5 W5 o5 g5 _
      have B5 := (B2.alloc s2 (.cells #[.int .i64 T, .int .i64 V] 27)).grown g5 (by simp; omega) (fun k hk => (hown.lt k hk).1)
      clear x0 x1 g5 hown B2 hi hz0 hz1 hz2
      go_wp2
      go_roundw
      case rel => exact ⟨k, n + 1, by omega, by omega, by go_num, by rw [HT.out, smpCells_snoc]; exact o5, B5⟩
      case measure => simp [intOf]

set_option maxHeartbeats 1000000 in
theorem plain_any (q : Qry) (a : Option Addr) (n c : Nat) (w : World) :
    Calls Try.prog 12 #[qv q a n c] w fun e w' => e = .returned (qv q a n c) ∧ Below w.heap.size w w' := by
  unfold qv
  have e1 : (w.alloc (.cells (qcs q a n c) 25)).heap.size = w.heap.size + 1 := by simp
  unfold qcs at e1
  go_enter Try.func12, Try.ntmps12
  go_wp2
  obtain ⟨W, hW⟩ : ∃ W, (w.alloc (.cells #[.int .i64 q.fr, .int .i64 q.to, .bool q.back, .int .i64 q.cnt, .int .i64 q.kd, .int .i64 q.sz, .int .i64 q.al, .bool q.emp, .slice a n c, .bool q.vals, .int .i64 q.lo, .int .i64 q.hi] 25)).alloc (.cells #[.int .i64 q.fr, .int .i64 q.to, .bool q.back, .int .i64 q.cnt, .int .i64 q.kd, .int .i64 q.sz, .int .i64 q.al, .bool q.emp, .slice a n c, .bool q.vals, .int .i64 q.lo, .int .i64 q.hi] 33) = W := ⟨_, rfl⟩
  obtain ⟨h0, h1, B, hs⟩ := alloc2 _ _ _ _ hW
  rw [hW]
  refine bodyPost_ret (results_cell_row rfl _ _ _ _ _ _ _ rfl h1 Try.underlying33 rfl rfl) rfl ?_
  exact ⟨rfl, B⟩

set_option maxRecDepth 100000 in
set_option maxHeartbeats 2000000 in
theorem rright7_any (q : Qry) (a : Option Addr) (n c : Nat) (w : World) (hn : q.tm.length = n) (hm : n ≤ 9223372036854775807) :
    Calls Try.prog 15 #[qv q a n c] w fun e w' => e = .returned (.int .i64 (errR q)) ∧ Below w.heap.size w w' := by
  have HB := Lib.hid (show ∀ o, Below w.heap.size w (w.alloc o) from fun o => (Below.refl _ _).alloc (Nat.le_refl _) o)
  have HQ := Lib.hid (qc_of (heap_new w (.cells (qcs q a n c) 33)))
  have s0 : w.heap.size < (w.alloc (.cells (qcs q a n c) 33)).heap.size := by simp
  unfold qcs at HQ s0
  by_cases h1 : 0 ≤ q.cnt
  · by_cases h2 : n ≤ 32
    · have h2' : ¬ (32 : Int) < (n : Int) := by omega
      have h1' : ¬ q.cnt < 0 := by omega
      by_cases hk : q.kd = 0
      · have tk : (q.kd != 0) = false := by rw [bne_eq_false_iff_eq]; exact hk
        have tk2 : (q.kd == 0) = true := beq_iff_eq.2 hk
        have hee : q.emp = false ∨ q.emp = true := by cases q.emp <;> simp
        rcases hee with he | he
        · have E := Lib.hid (show errR q = 0 from if_pos ⟨h1, by omega, fun _ => he, fun h => absurd hk h⟩)
          unfold qv
          rw [he]
          clear hk he hn
          go_enter Try.func15, Try.ntmps15
          go_wp2
          go_ret
          exact ⟨ret_int E.out.symm, HB.out _⟩
        · have E := Lib.hid (show errR q = 1 from if_neg (fun h => by have := h.2.2.1 hk; rw [he] at this; cases this))
          unfold qv
          rw [he]
          clear hk he hn
          go_enter Try.func15, Try.ntmps15
          go_wp2
          go_ret
          exact ⟨ret_int E.out.symm, HB.out _⟩
      · have tk : (q.kd != 0) = true := by rw [bne_iff_ne]; exact hk
        have tk2 : (q.kd == 0) = false := beq_eq_false_iff_ne.2 hk
        obtain ⟨nm, hnm⟩ : ∃ nm, nm = nmA q.kd := ⟨_, rfl⟩
        have HN := Lib.hid hnm
        by_cases hko : kok q.kd
        · have t4 : ¬ nm.toList = [] := by rw [hnm]; exact fun e => (nmA_empty q.kd).1 e hko
          have t5 : nm.toList.isEmpty = false := by simpa using t4
          by_cases hr : rightB q.sz q.al
          · have E := Lib.hid (show errR q = 0 from if_pos ⟨h1, by omega, fun h => absurd h hk, fun _ => ⟨hko, hr⟩⟩)
            have HR := Lib.hid hr
            have hee : q.emp = false ∨ q.emp = true := by cases q.emp <;> simp
            have HEE := Lib.hid hee
            clear hk hn hko hr hnm hee
            unfold qv
            go_enter Try.func15, Try.ntmps15
            go_wp2_with fail
            have B1 := HB.out (.cells #[.int .i64 q.fr, .int .i64 q.to, .bool q.back, .int .i64 q.cnt, .int .i64 q.kd, .int .i64 q.sz, .int .i64 q.al, .bool q.emp, .slice a n c, .bool q.vals, .int .i64 q.lo, .int .i64 q.hi] 33)
            generalize w.alloc (.cells #[.int .i64 q.fr, .int .i64 q.to, .bool q.back, .int .i64 q.cnt, .int .i64 q.kd, .int .i64 q.sz, .int .i64 q.al, .bool q.emp, .slice a n c, .bool q.vals, .int .i64 q.lo, .int .i64 q.hi] 33) = W1 at *
            generalize hq : w.heap.size = qb at *
            have HQB := Lib.hid hq
            clear hq
            refine (arname_any _ _).mono ?_
            rintro e W2 ⟨rfl, b2⟩
            rw [← HN.out]
            have B2 := B1.trans (b2.mono (by omega))
            obtain ⟨c0, c1, c2, c3, c4, c5, c6, c7, c8, c9, c10, c11⟩ := HQ.out.keep b2 s0
            clear b2 B1
            rcases HEE.out with he | he
            all_goals
              rw [he] at c7
              clear he
              go_wp2_with fail
              refine (rrightB_any _ _ _).mono ?_
              rintro e w' ⟨rfl, rfl⟩
              rw [decide_eq_true HR.out]
              go_wp2
              go_ret
              exact ⟨ret_int E.out.symm, by rw [HQB.out]; exact B2⟩
          · have E := Lib.hid (show errR q = 1 from if_neg (fun h => hr (h.2.2.2 hk).2))
            have HR := Lib.hid hr
            clear hk hn hko hr hnm
            unfold qv
            go_enter Try.func15, Try.ntmps15
            go_wp2_with fail
            have B1 := HB.out (.cells #[.int .i64 q.fr, .int .i64 q.to, .bool q.back, .int .i64 q.cnt, .int .i64 q.kd, .int .i64 q.sz, .int .i64 q.al, .bool q.emp, .slice a n c, .bool q.vals, .int .i64 q.lo, .int .i64 q.hi] 33)
            generalize w.alloc (.cells #[.int .i64 q.fr, .int .i64 q.to, .bool q.back, .int .i64 q.cnt, .int .i64 q.kd, .int .i64 q.sz, .int .i64 q.al, .bool q.emp, .slice a n c, .bool q.vals, .int .i64 q.lo, .int .i64 q.hi] 33) = W1 at *
            generalize hq : w.heap.size = qb at *
            have HQB := Lib.hid hq
            clear hq
            refine (arname_any _ _).mono ?_
            rintro e W2 ⟨rfl, b2⟩
            rw [← HN.out]
            have B2 := B1.trans (b2.mono (by omega))
            obtain ⟨c0, c1, c2, c3, c4, c5, c6, c7, c8, c9, c10, c11⟩ := HQ.out.keep b2 s0
            clear b2 B1
            go_wp2_with fail
            refine (rrightB_any _ _ _).mono ?_
            rintro e w' ⟨rfl, rfl⟩
            rw [decide_eq_false HR.out]
            go_wp2
            go_ret
            exact ⟨ret_int E.out.symm, by rw [HQB.out]; exact B2⟩
        · have t4 : nm.toList = [] := by rw [hnm]; exact (nmA_empty q.kd).2 hko
          have t5 : nm.toList.isEmpty = true := by simpa using t4
          have E := Lib.hid (show errR q = 1 from if_neg (fun h => hko (h.2.2.2 hk).1))
          clear hk hn hko hnm
          unfold qv
          go_enter Try.func15, Try.ntmps15
          go_wp2_with fail
          have B1 := HB.out (.cells #[.int .i64 q.fr, .int .i64 q.to, .bool q.back, .int .i64 q.cnt, .int .i64 q.kd, .int .i64 q.sz, .int .i64 q.al, .bool q.emp, .slice a n c, .bool q.vals, .int .i64 q.lo, .int .i64 q.hi] 33)
          generalize w.alloc (.cells #[.int .i64 q.fr, .int .i64 q.to, .bool q.back, .int .i64 q.cnt, .int .i64 q.kd, .int .i64 q.sz, .int .i64 q.al, .bool q.emp, .slice a n c, .bool q.vals, .int .i64 q.lo, .int .i64 q.hi] 33) = W1 at *
          generalize hq : w.heap.size = qb at *
          have HQB := Lib.hid hq
          clear hq
          refine (arname_any _ _).mono ?_
          rintro e W2 ⟨rfl, b2⟩
          rw [← HN.out]
          have B2 := B1.trans (b2.mono (by omega))
          obtain ⟨c0, c1, c2, c3, c4, c5, c6, c7, c8, c9, c10, c11⟩ := HQ.out.keep b2 s0
          clear b2 B1
          go_wp2
          go_ret
          exact ⟨ret_int E.out.symm, by rw [HQB.out]; exact B2⟩
    · have E := Lib.hid (show errR q = 1 from if_neg (fun g => h2 (by have := g.2.1; omega)))
      have h2' : (32 : Int) < (n : Int) := by omega
      clear hn
      unfold qv
      go_enter Try.func15, Try.ntmps15
      go_wp2
      go_ret
      exact ⟨ret_int E.out.symm, HB.out _⟩
  · have E := Lib.hid (show errR q = 1 from if_neg (fun g => h1 g.1))
    clear hn
    unfold qv
    go_enter Try.func15, Try.ntmps15
    go_wp2
    go_ret
    exact ⟨ret_int E.out.symm, HB.out _⟩

end Go.Proofs.Ytpahohnpcfgegaa
