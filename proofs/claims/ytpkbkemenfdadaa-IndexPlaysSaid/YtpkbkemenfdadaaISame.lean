/-
  Contract of the document's Same of labels.
-/
import Derived.Test.YtpkbkemenfdadaaILab
import Derived.Test.YtpkbkemenfdadaaEHas
namespace Go.Proofs.Ytpkbkemenfdadaa
open Go.RowKit
set_option linter.unusedVariables false
set_option linter.unusedSimpArgs false

set_option maxRecDepth 100000 in
set_option maxHeartbeats 1600000 in
theorem same9_any (a : Option Addr) (n c : Nat) (l : List Lb) (a2 : Option Addr) (n2 c2 : Nat) (k : List Lb) (w : World) (h : LbAt w a n c l) (h2 : LbAt w a2 n2 c2 k) :
    Calls Try.prog 19 #[.slice a n c, .slice a2 n2 c2] w fun e w' => e = .returned (.bool (decide (l = k))) ∧ Drew w w' := by
  by_cases hn : n = n2
  · subst hn
    have HL := Lib.hid h.1
    have HL2 := Lib.hid h2.1
    have hb := h.2.2.1
    have HS := Lib.hid h
    have HS2 := Lib.hid h2
    clear h h2
    go_enter Try.func19, Try.ntmps19
    go_wp2
    go_loopw [5] (fun i wr => ∃ j : Nat, j ≤ n ∧ i = .int .i64 (j : Int) ∧ Hid (l.take j = k.take j) ∧ Drew w wr) (fun i _ => n - (intOf i).toNat)
    case atStart => exact ⟨0, Nat.zero_le _, rfl, Lib.hid (by simp), 0, rfl⟩
    case round =>
      obtain ⟨j, hj, rfl, HT, hd⟩ := hrel
      by_cases hjn : j < n
      · obtain ⟨m, rfl⟩ := hd
        obtain ⟨p, o, rfl, hp, x0, x1⟩ := HS.out.at_ j hjn
        obtain ⟨p2, o2, rfl, hp2, z0, z1⟩ := HS2.out.at_ j hjn
        have y0 : ∀ q, (w.drewN q).cell? ⟨p, o + j * 2, none⟩ = _ := fun q => x0
        have y1 : ∀ q, (w.drewN q).cell? ⟨p, o + j * 2 + 1, none⟩ = _ := fun q => x1
        have u0 : ∀ q, (w.drewN q).cell? ⟨p2, o2 + j * 2, none⟩ = _ := fun q => z0
        have u1 : ∀ q, (w.drewN q).cell? ⟨p2, o2 + j * 2 + 1, none⟩ = _ := fun q => z1
        have t1 := fun W => run_ne_lb W (lN l j) (lV l j) (lN k j) (lV k j)
        have s1 := eq_bs (lN l j) (lN k j)
        have s2 := eq_bs (lV l j) (lV k j)
        by_cases he : (lN l j, lV l j) = (lN k j, lV k j)
        · have HN := Lib.hid (show l.take (j + 1) = k.take (j + 1) from by
            rw [List.take_succ_eq_append_getElem (by rw [HL.out]; exact hjn), List.take_succ_eq_append_getElem (by rw [HL2.out]; exact hjn), HT.out, lb_get, lb_get, he])
          rw [decide_eq_true he] at t1
          rw [decide_eq_true (by simp only [Prod.mk.injEq] at he; exact he.1)] at s1
          rw [decide_eq_true (by simp only [Prod.mk.injEq] at he; exact he.2)] at s2
          generalize bs (lN l j) = q1 at *
          generalize bs (lV l j) = q2 at *
          generalize bs (lN k j) = q3 at *
          generalize bs (lV k j) = q4 at *
          clear he HT
          go_wp2
          go_quiet (fail)
          go_wp2
          go_roundw
          case rel => exact ⟨j + 1, by omega, by go_num, HN, by first | exact ⟨_, World.drewN_drewN ..⟩ | exact ⟨_, rfl⟩⟩
          case measure => simp [intOf]; omega
        · have HN := Lib.hid (show l ≠ k from fun e => he (by rw [e]))
          rw [decide_eq_false he] at t1
          clear s1 s2
          generalize bs (lN l j) = q1 at *
          generalize bs (lV l j) = q2 at *
          generalize bs (lN k j) = q3 at *
          generalize bs (lV k j) = q4 at *
          clear he HT
          go_wp2
          go_quiet (fail)
          go_wp2
          go_ret
          exact ⟨ret_bool (decide_eq_false HN.out).symm, by first | exact ⟨_, World.drewN_drewN ..⟩ | exact ⟨_, rfl⟩⟩
      · have HN := Lib.hid (show l = k from by have := HT.out; rwa [List.take_of_length_le (by rw [HL.out]; omega), List.take_of_length_le (by rw [HL2.out]; omega)] at this)
        obtain rfl : j = n := by omega
        go_wp2
        go_ret
        exact ⟨ret_bool (decide_eq_true HN.out).symm, hd⟩
  · have tb : ((n : Int) != (n2 : Int)) = true := by rw [bne_iff_ne]; omega
    have HN := Lib.hid (show l ≠ k from fun e => hn (by rw [← h.1, ← h2.1, e]))
    clear h h2 hn
    go_enter Try.func19, Try.ntmps19
    go_wp2
    go_ret
    exact ⟨ret_bool (decide_eq_false HN.out).symm, 0, rfl⟩

end Go.Proofs.Ytpkbkemenfdadaa
