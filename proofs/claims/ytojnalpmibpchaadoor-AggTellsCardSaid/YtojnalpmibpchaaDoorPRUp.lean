/-
  Contract of the document's own Upper of layer 3.
  Condition: a text of at most 2^40 bytes.
-/
import Derived.Test.YtojnalpmibpchaaDoorPUp
import Derived.Test.YtojnalpmibpchaaDoorRowB
namespace Go.Proofs.YtojnalpmibpchaaDoor
open Go.RowKit
set_option linter.unusedVariables false

set_option maxRecDepth 100000 in
set_option maxHeartbeats 1000000 in
theorem rupper_any (s : ByteArray) (w : World) (hs : s.size ≤ 1099511627776) :
    Calls Tryd.prog 22 #[.string s] w fun e w' => e = .returned (.string (upper s)) ∧ Below w.heap.size w w' := by
  obtain ⟨m, hm⟩ : ∃ m, s.size = m := ⟨_, rfl⟩
  go_enter Tryd.func22, Tryd.ntmps22
  go_wp2
  go_loopw [3, 4] (fun v i wr => ∃ j : Nat, j ≤ m ∧ i = .int .i64 (j : Int) ∧ wr.ownsRow w.heap.size 5 1 v j (uv ((s.data.toList.map grU).take j)) ∧ Below w.heap.size w wr) (fun _ i _ => m - (intOf i).toNat)
  case atStart => exact ⟨0, Nat.zero_le _, rfl, World.ownsRow_nil _ _ _ _, Below.refl _ _⟩
  case round =>
    obtain ⟨j, hj, rfl, hown, B2⟩ := hrel
    by_cases hjm : j < m
    · have h1 : j < s.size := by omega
      obtain ⟨i0, hi, hz0, hz1, hz2⟩ := info_u8
      have s2 := B2.size
      have HST := Lib.hid (show uv ((s.data.toList.map grU).take (j + 1)) = uv ((s.data.toList.map grU).take j) ++ [.int .u8 (grN s[j].toNat : Int)] from by
        rw [List.take_succ_eq_append_getElem (by rw [List.length_map, size_list]; exact h1), upper_get s j h1, uv_append, ← grU_nat]; rfl)
      by_cases ha : 97 ≤ s[j].toNat
      · by_cases hz : s[j].toNat ≤ 122
        · have E := Lib.hid (show (grN s[j].toNat : Int) = (s[j].toNat : Int) - 97 + 65 from by unfold grN; rw [if_pos ⟨ha, hz⟩]; omega)
          rw [E.out] at HST
          clear E
          go_wp2_with (at_builtin; refine wpList_append_own _ rfl _ _ 61 rfl w.heap.size 5 i0 _ 1 1 Tryd.underlying61 hi hz0 hz1 hz2 rfl (by decide) _ _ _ rfl (hown.alloc _) ⟨wr.heap.size, 0, none⟩ 1 1 [.int .u8 ((s[j].toNat : Int) - 97 + 65)] rfl rfl ?c1 ?c2 ?c3 ?c4 ?c5 ?_)
          try (case c1 => exact one_cell _ _ _)
          case c2 => first | rfl | exact uv_one _
          case c3 => unfold maxLen; omega
          case c4 => first | omega | (simp; omega)
          case c5 => first | omega | (simp; omega)
          intro v' W5 hown5 g5 _
          have B5 := (B2.alloc s2 (.cells #[.int .u8 ((s[j].toNat : Int) - 97 + 65)] 5)).grown g5 (by simp; omega) (fun k hk => (hown.lt k hk).1)
          clear hown g5 hi hz0 hz1 hz2
          go_wp2
          go_roundw
          case rel =>
            refine ⟨j + 1, by omega, by go_num, ?_, B5⟩
            rw [HST.out]
            exact hown5
          case measure => simp [intOf]; omega
        · have E := Lib.hid (show (grN s[j].toNat : Int) = (s[j].toNat : Int) from by unfold grN; rw [if_neg (by omega)])
          rw [E.out] at HST
          clear E
          go_wp2_with (at_builtin; refine wpList_append_own _ rfl _ _ 61 rfl w.heap.size 5 i0 _ 1 1 Tryd.underlying61 hi hz0 hz1 hz2 rfl (by decide) _ _ _ rfl (hown.alloc _) ⟨wr.heap.size, 0, none⟩ 1 1 [.int .u8 ((s[j].toNat : Int))] rfl rfl ?c1 ?c2 ?c3 ?c4 ?c5 ?_)
          try (case c1 => exact one_cell _ _ _)
          case c2 => first | rfl | exact uv_one _
          case c3 => unfold maxLen; omega
          case c4 => first | omega | (simp; omega)
          case c5 => first | omega | (simp; omega)
          intro v' W5 hown5 g5 _
          have B5 := (B2.alloc s2 (.cells #[.int .u8 ((s[j].toNat : Int))] 5)).grown g5 (by simp; omega) (fun k hk => (hown.lt k hk).1)
          clear hown g5 hi hz0 hz1 hz2
          go_wp2
          go_roundw
          case rel =>
            refine ⟨j + 1, by omega, by go_num, ?_, B5⟩
            rw [HST.out]
            exact hown5
          case measure => simp [intOf]; omega
      · have E := Lib.hid (show (grN s[j].toNat : Int) = (s[j].toNat : Int) from by unfold grN; rw [if_neg (by omega)])
        rw [E.out] at HST
        clear E
        go_wp2_with (at_builtin; refine wpList_append_own _ rfl _ _ 61 rfl w.heap.size 5 i0 _ 1 1 Tryd.underlying61 hi hz0 hz1 hz2 rfl (by decide) _ _ _ rfl (hown.alloc _) ⟨wr.heap.size, 0, none⟩ 1 1 [.int .u8 ((s[j].toNat : Int))] rfl rfl ?c1 ?c2 ?c3 ?c4 ?c5 ?_)
        try (case c1 => exact one_cell _ _ _)
        case c2 => first | rfl | exact uv_one _
        case c3 => unfold maxLen; omega
        case c4 => first | omega | (simp; omega)
        case c5 => first | omega | (simp; omega)
        intro v' W5 hown5 g5 _
        have B5 := (B2.alloc s2 (.cells #[.int .u8 ((s[j].toNat : Int))] 5)).grown g5 (by simp; omega) (fun k hk => (hown.lt k hk).1)
        clear hown g5 hi hz0 hz1 hz2
        go_wp2
        go_roundw
        case rel =>
          refine ⟨j + 1, by omega, by go_num, ?_, B5⟩
          rw [HST.out]
          exact hown5
        case measure => simp [intOf]; omega
    · obtain rfl : j = m := by omega
      rw [List.take_of_length_le (by rw [List.length_map, size_list]; omega)] at hown
      have hcv := conv_own hown (by rw [List.length_map, size_list]; omega)
      clear hown
      go_wp2
      go_ret
      exact ⟨rfl, B2⟩

end Go.Proofs.YtojnalpmibpchaaDoor
