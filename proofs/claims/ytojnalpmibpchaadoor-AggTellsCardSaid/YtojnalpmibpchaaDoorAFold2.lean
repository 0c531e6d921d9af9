/-
  Contract of agg.Fold: what samples make.
-/
import Derived.Test.YtojnalpmibpchaaDoorAUse
import Derived.Test.YtojnalpmibpchaaDoorSamp
import Derived.Test.YtojnalpmibpchaaDoorABuck
namespace Go.Proofs.YtojnalpmibpchaaDoor
open Go.RowKit Go.Shelf
set_option linter.unusedVariables false
set_option linter.unusedSimpArgs false

/-- What Fold tells. -/
def FoldP (k : Int) (l : List Int) (w : World) (e : Ending) (w' : World) : Prop := e = .returned (tell (valK k l) (isK k l)) ∧ Below w.heap.size w w'
theorem vOf_vals (z : List (Int × Int)) (j : Nat) (h : j < z.length) : (valsOf z).take (j + 1) = (valsOf z).take j ++ [vOf z j] := by
  rw [List.take_succ_eq_append_getElem (by rw [valsOf_len]; exact h)]
  congr 2
  unfold valsOf vOf
  rw [List.getElem_map, List.getD_eq_getElem?_getD, List.getElem?_eq_getElem h]; rfl
theorem vals64 {z : List (Int × Int)} (h : All64 z) : ∀ x ∈ valsOf z, in64 x := by
  intro x hx
  obtain ⟨u, hu, rfl⟩ := List.mem_map.1 hx
  exact (h u hu).2
theorem vOf_in {z : List (Int × Int)} (h : All64 z) (j : Nat) : in64 (vOf z j) := by
  unfold vOf
  rw [List.getD_eq_getElem?_getD]
  by_cases hj : j < z.length
  · rw [List.getElem?_eq_getElem hj]; exact (h _ (List.getElem_mem hj)).2
  · rw [List.getElem?_eq_none (by omega)]; simp [in64]

set_option maxRecDepth 100000 in
set_option maxHeartbeats 1000000 in
theorem fold_any (k : Int) (a : Option Addr) (len cap : Nat) (z : List (Int × Int)) (w : World) (h : SampAt w a len cap z) (hl : len < 4611686018427387904) :
    Calls Tryd.prog 17 #[.int .i64 k, .slice a len cap] w (FoldP k (valsOf z) w) := by
  by_cases hk : kok k
  · have HK := Lib.hid hk
    have HL := Lib.hid h.1
    have HA := Lib.hid h.2.2.2.1
    have HS := Lib.hid h
    have HI := Lib.hid (show isK k (valsOf z) = decide (valsOf z ≠ []) from by unfold isK; rw [decide_eq_true (show 1 ≤ k ∧ k ≤ 7 from hk)]; rfl)
    clear h hk
    go_enter Tryd.func17, Tryd.ntmps17
    go_wp2_with fail
    refine (anew_ok k _ HK.out).mono ?_
    rintro e W1 ⟨c, rfl, hc, hst, b1⟩
    have HC := Lib.hid hc
    clear hc
    go_wp2
    go_loopw [19] (fun i wr => ∃ j : Nat, j ≤ len ∧ i = .int .i64 (j : Int) ∧ StP wr c k ((valsOf z).take j) ∧ Below w.heap.size w wr) (fun i _ => len - (intOf i).toNat)
    case atStart => exact ⟨0, Nat.zero_le _, rfl, hst, b1⟩
    case round =>
      clear hst b1
      obtain ⟨j, hj, rfl, hst, B⟩ := hrel
      by_cases hjn : j < len
      · obtain ⟨p, o, rfl, hp, x0, x1⟩ := (HS.out.keep B).at_ j hjn
        have HV := Lib.hid (vOf_in HA.out j)
        have HT := Lib.hid (vOf_vals z j (by rw [HL.out]; exact hjn))
        generalize tOf z j = t at *
        generalize vOf z j = v at *
        go_wp2_with fail
        have hst2 := hst.keepN (World.grownBy_alloc wr (.cells #[.int .i64 t, .int .i64 v] 39) none)
        have B2 := B.alloc B.size (.cells #[.int .i64 t, .int .i64 v] 39)
        generalize wr.alloc (.cells #[.int .i64 t, .int .i64 v] 39) = W2 at *
        have hlen : ((valsOf z).take j).length < 4611686018427387904 := by rw [List.length_take]; omega
        refine (add_st c k _ v _ HK.out hst2 HV.out hlen).mono ?_
        rintro e W3 ⟨rfl, hst3, g3⟩
        have B3 := bel_gb B2 B2.size HC.out g3
        rw [← HT.out] at hst3
        clear hst hst2 g3 x0 x1 B B2 hlen
        go_wp2
        go_roundw
        case rel => exact ⟨j + 1, by omega, by go_num, hst3, B3⟩
        case measure => simp [intOf]; omega
      · obtain rfl : j = len := by omega
        rw [List.take_of_length_le (by rw [valsOf_len, HL.out]; exact Nat.le_refl _)] at hst
        have hlen : (valsOf z).length < 4611686018427387904 := by rw [valsOf_len, HL.out]; exact hl
        go_wp2_with fail
        refine (value_st c k _ _ HK.out hst hlen).mono ?_
        rintro e W3 ⟨rfl, b3⟩
        have B3 := bel_gbn B B.size (gb_below b3)
        generalize hx : valK k (valsOf z) = x at *
        generalize hy : decide (valsOf z ≠ []) = y at *
        have HX := Lib.hid hx
        have HY := Lib.hid hy
        clear hx hy hst b3 B
        unfold tell
        go_wp2
        go_ret2
        exact ⟨by rw [HI.out, HX.out]; rfl, B3⟩
  · have HK := Lib.hid hk
    have E1 := Lib.hid (valK_no (k := k) (valsOf z) hk)
    have E2 := Lib.hid (show isK k (valsOf z) = false from by unfold isK; rw [decide_eq_false (show ¬ (1 ≤ k ∧ k ≤ 7) from hk)]; rfl)
    clear h hk
    go_enter Tryd.func17, Tryd.ntmps17
    go_wp2_with fail
    refine (anew_no k _ HK.out).mono ?_
    rintro e W1 ⟨rfl, rfl⟩
    go_wp2
    go_ret2
    exact ⟨by rw [E1.out, E2.out]; rfl, Below.refl _ _⟩

end Go.Proofs.YtojnalpmibpchaaDoor
