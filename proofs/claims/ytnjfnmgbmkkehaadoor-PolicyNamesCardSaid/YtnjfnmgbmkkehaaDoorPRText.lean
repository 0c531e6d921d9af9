/-
  Contracts of the document's own Name, Upper and Parse of layer 3.
  Condition (Upper, Parse): a text of at most 2^40 bytes.
-/
import Derived.Test.YtnjfnmgbmkkehaaDoorPText
import Derived.Test.YtnjfnmgbmkkehaaDoorRowB
namespace Go.Proofs.YtnjfnmgbmkkehaaDoor
open Go.RowKit
set_option linter.unusedVariables false

theorem nm_list (k : Nat) (h1 : 1 ≤ k) (h2 : k ≤ 6) (w : World) :
    (w.alloc (.cells #[.string ⟨#[66, 76, 79, 67, 75]⟩, .string ⟨#[70, 73, 82, 83, 84]⟩, .string ⟨#[76, 65, 83, 84]⟩, .string ⟨#[77, 73, 78]⟩, .string ⟨#[77, 65, 88]⟩, .string ⟨#[83, 85, 77]⟩] 9)).cell? ⟨w.heap.size, k - 1, none⟩ = some (.string (nm (k : Int))) := by
  rw [cell_of (heap_new w _)]
  have q : k = 1 ∨ k = 2 ∨ k = 3 ∨ k = 4 ∨ k = 5 ∨ k = 6 := by omega
  rcases q with rfl | rfl | rfl | rfl | rfl | rfl <;> rfl

set_option maxHeartbeats 400000 in
theorem rname_any (p : Int) (w : World) :
    Calls Tryd.prog 14 #[.int .i64 p] w fun e w' => e = .returned (.string (nm p)) ∧ Below w.heap.size w w' := by
  by_cases hp : 1 ≤ p ∧ p ≤ 6
  · obtain ⟨hp1, hp2⟩ := hp
    obtain ⟨k, rfl⟩ := Int.eq_ofNat_of_zero_le (show 0 ≤ p by omega)
    have hk1 : 1 ≤ k := by omega
    have hk2 : k ≤ 6 := by omega
    have c := nm_list k hk1 hk2 w
    have t1 : ((k : Int) - 1).toNat = k - 1 := by omega
    go_enter Tryd.func14, Tryd.ntmps14
    go_wp2
    go_ret
    exact ⟨rfl, (Below.refl _ _).alloc (Nat.le_refl _) _⟩
  · have E := Lib.hid (show nm p = ⟨#[]⟩ from by unfold nm; rw [if_neg (by omega), if_neg (by omega), if_neg (by omega), if_neg (by omega), if_neg (by omega), if_neg (by omega)])
    by_cases h1 : p < 1
    · clear hp
      go_enter Tryd.func14, Tryd.ntmps14
      go_wp2
      go_ret
      exact ⟨by rw [E.out]; rfl, Below.refl _ _⟩
    · have h2 : 6 < p := by omega
      clear hp
      go_enter Tryd.func14, Tryd.ntmps14
      go_wp2
      go_ret
      exact ⟨by rw [E.out]; rfl, Below.refl _ _⟩

set_option maxRecDepth 100000 in
set_option maxHeartbeats 1000000 in
theorem rupper_any (s : ByteArray) (w : World) (hs : s.size ≤ 1099511627776) :
    Calls Tryd.prog 22 #[.string s] w fun e w' => e = .returned (.string (upper s)) ∧ Below w.heap.size w w' := by
  obtain ⟨m, hm⟩ : ∃ m, s.size = m := ⟨_, rfl⟩
  go_enter Tryd.func22, Tryd.ntmps22
  go_wp2
  go_loopw [3, 4] (fun v i wr => ∃ j : Nat, j ≤ m ∧ i = .int .i64 (j : Int) ∧ wr.ownsRow w.heap.size 5 1 v j (uv ((s.data.toList.map grU).take j)) ∧ Below w.heap.size w wr) (fun _ i _ => m - (intOf i).toNat)
  case atStart => exact ⟨0, Nat.zero_le _, rfl, World.ownsRow_nil _ _ _ _, Below.refl _ _⟩
  case round =>
    obtain ⟨j, hj, rfl, hown, B2⟩ := hrel
    by_cases hjm : j < m
    · have h1 : j < s.size := by omega
      obtain ⟨i0, hi, hz0, hz1, hz2⟩ := info_u8
      have s2 := B2.size
      have HST := Lib.hid (show uv ((s.data.toList.map grU).take (j + 1)) = uv ((s.data.toList.map grU).take j) ++ [.int .u8 (grN s[j].toNat : Int)] from by
        rw [List.take_succ_eq_append_getElem (by rw [List.length_map, size_list]; exact h1), upper_get s j h1, uv_append, ← grU_nat]; rfl)
      by_cases ha : 97 ≤ s[j].toNat
      · by_cases hz : s[j].toNat ≤ 122
        · have E := Lib.hid (show (grN s[j].toNat : Int) = (s[j].toNat : Int) - 97 + 65 from by unfold grN; rw [if_pos ⟨ha, hz⟩]; omega)
          rw [E.out] at HST
          clear E
          go_wp2_with (at_builtin; refine wpList_append_own _ rfl _ _ 34 rfl w.heap.size 5 i0 _ 1 1 Tryd.underlying34 hi hz0 hz1 hz2 rfl (by decide) _ _ _ rfl (hown.alloc _) ⟨wr.heap.size, 0, none⟩ 1 1 [.int .u8 ((s[j].toNat : Int) - 97 + 65)] rfl rfl ?c1 ?c2 ?c3 ?c4 ?c5 ?_)
          try (case c1 => exact one_cell _ _ _)
          case c2 => first | rfl | exact uv_one _
          case c3 => unfold maxLen; omega
          case c4 => first | omega | (simp; omega)
          case c5 => first | omega | (simp; omega)
          intro v' W5 hown5 g5 _
          have B5 := (B2.alloc s2 (.cells #[.int .u8 ((s[j].toNat : Int) - 97 + 65)] 5)).grown g5 (by simp; omega) (fun k hk => (hown.lt k hk).1)
          clear hown g5 hi hz0 hz1 hz2
          go_wp2
          go_roundw
          case rel =>
            refine ⟨j + 1, by omega, by go_num, ?_, B5⟩
            rw [HST.out]
            exact hown5
          case measure => simp [intOf]; omega
        · have E := Lib.hid (show (grN s[j].toNat : Int) = (s[j].toNat : Int) from by unfold grN; rw [if_neg (by omega)])
          rw [E.out] at HST
          clear E
          go_wp2_with (at_builtin; refine wpList_append_own _ rfl _ _ 34 rfl w.heap.size 5 i0 _ 1 1 Tryd.underlying34 hi hz0 hz1 hz2 rfl (by decide) _ _ _ rfl (hown.alloc _) ⟨wr.heap.size, 0, none⟩ 1 1 [.int .u8 ((s[j].toNat : Int))] rfl rfl ?c1 ?c2 ?c3 ?c4 ?c5 ?_)
          try (case c1 => exact one_cell _ _ _)
          case c2 => first | rfl | exact uv_one _
          case c3 => unfold maxLen; omega
          case c4 => first | omega | (simp; omega)
          case c5 => first | omega | (simp; omega)
          intro v' W5 hown5 g5 _
          have B5 := (B2.alloc s2 (.cells #[.int .u8 ((s[j].toNat : Int))] 5)).grown g5 (by simp; omega) (fun k hk => (hown.lt k hk).1)
          clear hown g5 hi hz0 hz1 hz2
          go_wp2
          go_roundw
          case rel =>
            refine ⟨j + 1, by omega, by go_num, ?_, B5⟩
            rw [HST.out]
            exact hown5
          case measure => simp [intOf]; omega
      · have E := Lib.hid (show (grN s[j].toNat : Int) = (s[j].toNat : Int) from by unfold grN; rw [if_neg (by omega)])
        rw [E.out] at HST
        clear E
        go_wp2_with (at_builtin; refine wpList_append_own _ rfl _ _ 34 rfl w.heap.size 5 i0 _ 1 1 Tryd.underlying34 hi hz0 hz1 hz2 rfl (by decide) _ _ _ rfl (hown.alloc _) ⟨wr.heap.size, 0, none⟩ 1 1 [.int .u8 ((s[j].toNat : Int))] rfl rfl ?c1 ?c2 ?c3 ?c4 ?c5 ?_)
        try (case c1 => exact one_cell _ _ _)
        case c2 => first | rfl | exact uv_one _
        case c3 => unfold maxLen; omega
        case c4 => first | omega | (simp; omega)
        case c5 => first | omega | (simp; omega)
        intro v' W5 hown5 g5 _
        have B5 := (B2.alloc s2 (.cells #[.int .u8 ((s[j].toNat : Int))] 5)).grown g5 (by simp; omega) (fun k hk => (hown.lt k hk).1)
        clear hown g5 hi hz0 hz1 hz2
        go_wp2
        go_roundw
        case rel =>
          refine ⟨j + 1, by omega, by go_num, ?_, B5⟩
          rw [HST.out]
          exact hown5
        case measure => simp [intOf]; omega
    · obtain rfl : j = m := by omega
      rw [List.take_of_length_le (by rw [List.length_map, size_list]; omega)] at hown
      have hcv := conv_own hown (by rw [List.length_map, size_list]; omega)
      clear hown
      go_wp2
      go_ret
      exact ⟨rfl, B2⟩

set_option maxHeartbeats 800000 in
theorem rparse_any (s : ByteArray) (w : World) (hs : s.size ≤ 1099511627776) :
    Calls Tryd.prog 12 #[.string s] w fun e w' => e = .returned (two (parseS s)) ∧ Below w.heap.size w w' := by
  go_enter Tryd.func12, Tryd.ntmps12
  go_wp2
  go_loopw [4] (fun i wr => ∃ j : Nat, 1 ≤ j ∧ j ≤ 7 ∧ i = .int .i64 (j : Int) ∧ Hid (∀ k : Nat, 1 ≤ k → k < j → upper s ≠ nm (k : Int)) ∧ Below w.heap.size w wr) (fun i _ => 7 - (intOf i).toNat)
  case atStart => exact ⟨1, Nat.le_refl _, by omega, rfl, Lib.hid (fun k h1 h2 => by omega), Below.refl _ _⟩
  case round =>
    obtain ⟨j, hj1, hj, rfl, HN, B1⟩ := hrel
    have s1 := B1.size
    by_cases hj6 : j ≤ 6
    · go_wp2_with fail
      refine (rname_any _ _).mono ?_
      rintro e W2 ⟨rfl, b2⟩
      have B2 := bel_gbn B1 s1 (gb_below b2)
      have s2 := B2.size
      clear b2 B1 s1
      go_wp2_with fail
      refine (rupper_any s _ hs).mono ?_
      rintro e W3 ⟨rfl, b3⟩
      have B3 := bel_gbn B2 s2 (gb_below b3)
      clear b3 B2 s2
      by_cases he : upper s = nm j
      · have E := Lib.hid (parse_hit s j hj1 hj6 HN.out he)
        have t1 : ((nm j).toList == (upper s).toList) = true := by rw [text_eq]; exact decide_eq_true he.symm
        clear he
        go_wp2
        go_ret2
        exact ⟨by rw [E.out]; rfl, B3⟩
      · have HN2 : Hid (∀ k : Nat, 1 ≤ k → k < j + 1 → upper s ≠ nm (k : Int)) := Lib.hid (fun k h1 h2 => by
          by_cases e : k = j
          · subst e; exact he
          · exact HN.out k h1 (by omega))
        have t1 : ((nm j).toList == (upper s).toList) = false := by rw [text_eq]; exact decide_eq_false (fun e => he e.symm)
        clear he HN
        go_wp2
        go_roundw
        case rel => exact ⟨j + 1, by omega, by omega, by go_num, HN2, B3⟩
        case measure => simp [intOf]; omega
    · obtain rfl : j = 7 := by omega
      have E := Lib.hid (parse_miss s HN.out)
      go_wp2
      go_ret2
      exact ⟨by rw [E.out]; rfl, B1⟩

end Go.Proofs.YtnjfnmgbmkkehaaDoor
