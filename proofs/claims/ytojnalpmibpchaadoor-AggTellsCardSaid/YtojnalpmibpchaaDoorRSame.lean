/-
  Contract of the document's own answer for layer 2: Same: are two rows of samples alike?
-/
import Derived.Test.YtojnalpmibpchaaDoorSamp
import Derived.Laws.StructEq
namespace Go.Proofs.YtojnalpmibpchaaDoor
open Go.RowKit
set_option linter.unusedVariables false
set_option linter.unusedSimpArgs false

theorem same_take (x y : List (Int × Int)) (j : Nat) (h1 : j < x.length) (h2 : j < y.length) (h : x.take j = y.take j) (he : tOf x j = tOf y j ∧ vOf x j = vOf y j) : x.take (j + 1) = y.take (j + 1) := by
  rw [List.take_succ_eq_append_getElem h1, List.take_succ_eq_append_getElem h2, h]
  congr 2
  unfold tOf vOf at he
  rw [List.getD_eq_getElem?_getD, List.getElem?_eq_getElem h1, List.getD_eq_getElem?_getD, List.getElem?_eq_getElem h2] at he
  exact Prod.ext he.1 he.2
theorem same_not (x y : List (Int × Int)) (j : Nat) (he : ¬ (tOf x j = tOf y j ∧ vOf x j = vOf y j)) : x ≠ y := by
  intro h; subst h; exact he ⟨rfl, rfl⟩

set_option maxRecDepth 100000 in
set_option maxHeartbeats 1000000 in
theorem same_any (a1 a2 : Option Addr) (n1 n2 c1 c2 : Nat) (x y : List (Int × Int)) (w : World) (hx : SampAt w a1 n1 c1 x) (hy : SampAt w a2 n2 c2 y) :
    Calls Tryd.prog 20 #[.slice a1 n1 c1, .slice a2 n2 c2] w fun e w' => e = .returned (.bool (decide (x = y))) ∧ Drew w w' := by
  have l1 := hx.1
  have l2 := hy.1
  have b1 := hx.2.2.1
  have b2 := hy.2.2.1
  have HX := Lib.hid hx
  have HY := Lib.hid hy
  have L1 := Lib.hid l1
  have L2 := Lib.hid l2
  by_cases hn : n1 = n2
  · subst hn
    have hnn : ((n1 : Int) != (n1 : Int)) = false := by simp
    clear hx hy l1 l2
    go_enter Tryd.func20, Tryd.ntmps20
    go_wp2
    go_loopw [5] (fun i wr => ∃ j : Nat, j ≤ n1 ∧ i = .int .i64 (j : Int) ∧ Hid (x.take j = y.take j) ∧ Drew w wr) (fun i _ => n1 - (intOf i).toNat)
    case atStart => exact ⟨0, Nat.zero_le _, rfl, rfl, 0, rfl⟩
    case round =>
      obtain ⟨j, hj, rfl, HT, hd⟩ := hrel
      by_cases hjn : j < n1
      · obtain ⟨p, o, rfl, hp, x0, x1⟩ := HX.out.at_ j hjn
        obtain ⟨q, o', rfl, hq, y0, y1⟩ := HY.out.at_ j hjn
        obtain ⟨nn, rfl⟩ := hd
        have x0 : (w.drewN nn).cell? _ = _ := x0
        have x1 : (w.drewN nn).cell? _ = _ := x1
        have y0 : (w.drewN nn).cell? _ = _ := y0
        have y1 : (w.drewN nn).cell? _ = _ := y1
        have hd : Drew w (w.drewN nn) := ⟨nn, rfl⟩
        generalize w.drewN nn = W1 at *
        have HS := Lib.hid (same_take x y j (by rw [L1.out]; exact hjn) (by rw [L2.out]; exact hjn) HT.out)
        have HNO := Lib.hid (same_not x y j)
        generalize tOf x j = t1 at *
        generalize vOf x j = v1 at *
        generalize tOf y j = t2 at *
        generalize vOf y j = v2 at *
        by_cases het : t1 = t2
        · by_cases hev : v1 = v2
          · have HS2 := Lib.hid (HS.out ⟨het, hev⟩)
            subst het hev
            clear HS HNO
            have h1 : (t1 == t1) = true := by simp
            have h2 : (v1 == v1) = true := by simp
            go_wp2_with fail
            go_quiet (fail)
            go_wp2
            go_roundw
            case rel => exact ⟨j + 1, by omega, by go_num, HS2, by obtain ⟨m, rfl⟩ := hd; exact ⟨m + nq, by rw [World.drewN_drewN]⟩⟩
            case measure => simp [intOf]; omega
          · have h1 : (t1 == t2) = true := by simpa using het
            have h2 : (v1 == v2) = false := by simpa using hev
            have HN := Lib.hid (HNO.out (fun h => hev h.2))
            clear het hev
            go_wp2_with fail
            go_quiet (fail)
            go_wp2
            go_ret
            exact ⟨ret_bool (by simpa using HN.out), by obtain ⟨m, rfl⟩ := hd; exact ⟨m + nq, by rw [World.drewN_drewN]⟩⟩
        · have h1 : (t1 == t2) = false := by simpa using het
          have HN := Lib.hid (HNO.out (fun h => het h.1))
          clear het
          go_wp2_with fail
          go_quiet (fail)
          go_wp2
          go_ret
          exact ⟨ret_bool (by simpa using HN.out), by obtain ⟨m, rfl⟩ := hd; exact ⟨m + nq, by rw [World.drewN_drewN]⟩⟩
      · obtain rfl : j = n1 := by omega
        have HE := Lib.hid (show x = y from by
          have := HT.out
          rwa [List.take_of_length_le (by rw [L1.out]; exact Nat.le_refl _), List.take_of_length_le (by rw [L2.out]; exact Nat.le_refl _)] at this)
        go_wp2
        go_ret
        exact ⟨ret_bool (by simpa using HE.out), hd⟩
  · have hnn : ((n1 : Int) != (n2 : Int)) = true := by rw [bne_iff_ne]; omega
    have HE := Lib.hid (show x ≠ y from by intro h; subst h; omega)
    clear hx hy l1 l2
    go_enter Tryd.func20, Tryd.ntmps20
    go_wp2
    go_ret
    exact ⟨ret_bool (by simpa using HE.out), 0, rfl⟩

end Go.Proofs.YtojnalpmibpchaaDoor
