/-
  The statement 'PolicyOrders' of layer 3: for every three numbers, the least, the greatest, and the sum are the same in any order, as far as there is no error; the first, and the last one, are the first and the last one.
  No condition on the arguments; the package's table of names is as the program's text lays it (the card ties that).
-/
import Derived.Test.YtnjfnmgbmkkehaaDoorPKnown
import Derived.Test.YtnjfnmgbmkkehaaDoorPLaid
import Derived.Test.YtnjfnmgbmkkehaaDoorTie
import Derived.Test.YtnjfnmgbmkkehaaDoorCards
import Derived.ShutString
import Derived.ChangeOld
import Derived.SevenTiedAt
namespace Go.Proofs.YtnjfnmgbmkkehaaDoor
namespace policyOrders
open Go.ChangeShapes Go.WideShapes Go.ChangeAt Go.RowKit
open Go.ChangeMaps (open_string shut_string)
set_option linter.unusedVariables false

theorem own : ownKnob Tryd.prog.godebug = none := by kernel_rfl

theorem addS_comm (a b : Int) : addS a b = addS b a := by unfold addS; rw [Int.add_comm]

set_option maxRecDepth 100000 in
set_option maxHeartbeats 4000000 in
theorem walk0 (a b c : Int) (w : World) (h : NamesAt w) (ha : in64 a) (hb : in64 b) (hc : in64 c) :
    Calls Tryd.prog 5 #[.int .i64 a, .int .i64 b, .int .i64 c] w fun e w' => e = .returned (.bool true) ∧ Below w.heap.size w w' := by
  have H := Lib.hid h
  have HA := Lib.hid ha
  have HB := Lib.hid hb
  have HC := Lib.hid hc
  clear h ha hb hc
  go_enter Tryd.func5, Tryd.ntmps5
  go_wp2
  go_loop [7] (fun t => ∃ q : Int, 2 ≤ q ∧ q ≤ 7 ∧ t = .int .i64 q) (fun t => (7 - intOf t).toNat)
  case atStart => exact ⟨2, by omega, by omega, rfl⟩
  case round =>
    obtain ⟨q, hq1, hq2, rfl⟩ := hrel
    have hq : q = 2 ∨ q = 3 ∨ q = 4 ∨ q = 5 ∨ q = 6 ∨ q = 7 := by omega
    rcases hq with rfl | rfl | rfl | rfl | rfl | rfl
    · have taa : (a != a) = false := by simp
      have M1 := Lib.hid (show mergeS 2 a b = (a, 0) from rfl)
      have M2 := Lib.hid (show mergeS 2 a c = (a, 0) from rfl)
      have M3 := Lib.hid (show mergeS 2 b c = (b, 0) from rfl)
      have M4 := Lib.hid (show mergeS 2 a b = (a, 0) from rfl)
      have M5 := Lib.hid (show mergeS 2 b a = (b, 0) from rfl)
      go_wp2_with fail
      refine (merge_any 2 a b _ HA.out HB.out).mono ?_
      rintro e w' ⟨rfl, rfl⟩
      rw [M1.out]
      unfold two
      go_wp2_with fail
      refine (merge_any 2 a c _ HA.out HC.out).mono ?_
      rintro e w' ⟨rfl, rfl⟩
      rw [M2.out]
      unfold two
      go_wp2_with fail
      refine (merge_any 2 b c _ HB.out HC.out).mono ?_
      rintro e w' ⟨rfl, rfl⟩
      rw [M3.out]
      unfold two
      go_wp2_with fail
      refine (merge_any 2 a b _ HA.out HB.out).mono ?_
      rintro e w' ⟨rfl, rfl⟩
      rw [M4.out]
      unfold two
      go_wp2_with fail
      refine (merge_any 2 b a _ HB.out HA.out).mono ?_
      rintro e w' ⟨rfl, rfl⟩
      rw [M5.out]
      unfold two
      go_wp2
      go_round
      case rel => exact ⟨3, by omega, by omega, rfl⟩
      case measure => simp [intOf]
    · have tcc : (c != c) = false := by simp
      have tbb : (b != b) = false := by simp
      have M1 := Lib.hid (show mergeS 3 a b = (b, 0) from rfl)
      have M2 := Lib.hid (show mergeS 3 b c = (c, 0) from rfl)
      have M3 := Lib.hid (show mergeS 3 b c = (c, 0) from rfl)
      have M4 := Lib.hid (show mergeS 3 a c = (c, 0) from rfl)
      have M5 := Lib.hid (show mergeS 3 b a = (a, 0) from rfl)
      by_cases hba : b = a
      · have tba : (b != a) = false := by simpa using hba
        clear hba
        go_wp2_with fail
        refine (merge_any 3 a b _ HA.out HB.out).mono ?_
        rintro e w' ⟨rfl, rfl⟩
        rw [M1.out]
        unfold two
        go_wp2_with fail
        refine (merge_any 3 b c _ HB.out HC.out).mono ?_
        rintro e w' ⟨rfl, rfl⟩
        rw [M2.out]
        unfold two
        go_wp2_with fail
        refine (merge_any 3 b c _ HB.out HC.out).mono ?_
        rintro e w' ⟨rfl, rfl⟩
        rw [M3.out]
        unfold two
        go_wp2_with fail
        refine (merge_any 3 a c _ HA.out HC.out).mono ?_
        rintro e w' ⟨rfl, rfl⟩
        rw [M4.out]
        unfold two
        go_wp2_with fail
        refine (merge_any 3 b a _ HB.out HA.out).mono ?_
        rintro e w' ⟨rfl, rfl⟩
        rw [M5.out]
        unfold two
        go_wp2
        go_round
        case rel => exact ⟨4, by omega, by omega, rfl⟩
        case measure => simp [intOf]
      · have tba : (b != a) = true := by simpa using hba
        clear hba
        go_wp2_with fail
        refine (merge_any 3 a b _ HA.out HB.out).mono ?_
        rintro e w' ⟨rfl, rfl⟩
        rw [M1.out]
        unfold two
        go_wp2_with fail
        refine (merge_any 3 b c _ HB.out HC.out).mono ?_
        rintro e w' ⟨rfl, rfl⟩
        rw [M2.out]
        unfold two
        go_wp2_with fail
        refine (merge_any 3 b c _ HB.out HC.out).mono ?_
        rintro e w' ⟨rfl, rfl⟩
        rw [M3.out]
        unfold two
        go_wp2_with fail
        refine (merge_any 3 a c _ HA.out HC.out).mono ?_
        rintro e w' ⟨rfl, rfl⟩
        rw [M4.out]
        unfold two
        go_wp2_with fail
        refine (merge_any 3 b a _ HB.out HA.out).mono ?_
        rintro e w' ⟨rfl, rfl⟩
        rw [M5.out]
        unfold two
        go_wp2
        go_round
        case rel => exact ⟨4, by omega, by omega, rfl⟩
        case measure => simp [intOf]
    · obtain ⟨x, hx⟩ : ∃ x, x = min a b := ⟨_, rfl⟩
      obtain ⟨y, hy⟩ : ∃ y, y = min (min a b) c := ⟨_, rfl⟩
      obtain ⟨u, hu⟩ : ∃ u, u = min b c := ⟨_, rfl⟩
      have HX := Lib.hid hx
      have HU := Lib.hid hu
      have HY := Lib.hid hy
      have HXI := Lib.hid (show in64 x from by have h1 := HA.out; have h2 := HB.out; unfold in64 at *; omega)
      have HUI := Lib.hid (show in64 u from by have h1 := HB.out; have h2 := HC.out; unfold in64 at *; omega)
      have HE := Lib.hid (show x = a ∨ x ≠ a ∧ x = b from by omega)
      clear hx hy hu
      have tyy : (y != y) = false := by simp
      have txx : (x != x) = false := by simp
      have M1 := Lib.hid (show mergeS 4 a b = (x, 0) from by rw [HX.out]; rfl)
      have M2 := Lib.hid (show mergeS 4 x c = (y, 0) from by rw [HX.out, HY.out]; rfl)
      have M3 := Lib.hid (show mergeS 4 b c = (u, 0) from by rw [HU.out]; rfl)
      have M4 := Lib.hid (show mergeS 4 a u = (y, 0) from by rw [HU.out, HY.out]; show (min a (min b c), (0 : Int)) = _; rw [show min a (min b c) = min (min a b) c from by omega])
      have M5 := Lib.hid (show mergeS 4 b a = (x, 0) from by rw [HX.out]; show (min b a, (0 : Int)) = _; rw [show min b a = min a b from by omega])
      rcases HE.out with hxa | ⟨hxa, hxb⟩
      · have t1 : (x != a) = false := by simpa using hxa
        clear hxa
        go_wp2_with fail
        refine (merge_any 4 a b _ HA.out HB.out).mono ?_
        rintro e w' ⟨rfl, rfl⟩
        rw [M1.out]
        unfold two
        go_wp2_with fail
        refine (merge_any 4 x c _ HXI.out HC.out).mono ?_
        rintro e w' ⟨rfl, rfl⟩
        rw [M2.out]
        unfold two
        go_wp2_with fail
        refine (merge_any 4 b c _ HB.out HC.out).mono ?_
        rintro e w' ⟨rfl, rfl⟩
        rw [M3.out]
        unfold two
        go_wp2_with fail
        refine (merge_any 4 a u _ HA.out HUI.out).mono ?_
        rintro e w' ⟨rfl, rfl⟩
        rw [M4.out]
        unfold two
        go_wp2_with fail
        refine (merge_any 4 b a _ HB.out HA.out).mono ?_
        rintro e w' ⟨rfl, rfl⟩
        rw [M5.out]
        unfold two
        go_wp2
        go_round
        case rel => exact ⟨5, by omega, by omega, rfl⟩
        case measure => simp [intOf]
      · have t1 : (x != a) = true := by simpa using hxa
        have t2 : (x != b) = false := by simpa using hxb
        clear hxa hxb
        go_wp2_with fail
        refine (merge_any 4 a b _ HA.out HB.out).mono ?_
        rintro e w' ⟨rfl, rfl⟩
        rw [M1.out]
        unfold two
        go_wp2_with fail
        refine (merge_any 4 x c _ HXI.out HC.out).mono ?_
        rintro e w' ⟨rfl, rfl⟩
        rw [M2.out]
        unfold two
        go_wp2_with fail
        refine (merge_any 4 b c _ HB.out HC.out).mono ?_
        rintro e w' ⟨rfl, rfl⟩
        rw [M3.out]
        unfold two
        go_wp2_with fail
        refine (merge_any 4 a u _ HA.out HUI.out).mono ?_
        rintro e w' ⟨rfl, rfl⟩
        rw [M4.out]
        unfold two
        go_wp2_with fail
        refine (merge_any 4 b a _ HB.out HA.out).mono ?_
        rintro e w' ⟨rfl, rfl⟩
        rw [M5.out]
        unfold two
        go_wp2
        go_round
        case rel => exact ⟨5, by omega, by omega, rfl⟩
        case measure => simp [intOf]
    · obtain ⟨x, hx⟩ : ∃ x, x = max a b := ⟨_, rfl⟩
      obtain ⟨y, hy⟩ : ∃ y, y = max (max a b) c := ⟨_, rfl⟩
      obtain ⟨u, hu⟩ : ∃ u, u = max b c := ⟨_, rfl⟩
      have HX := Lib.hid hx
      have HU := Lib.hid hu
      have HY := Lib.hid hy
      have HXI := Lib.hid (show in64 x from by have h1 := HA.out; have h2 := HB.out; unfold in64 at *; omega)
      have HUI := Lib.hid (show in64 u from by have h1 := HB.out; have h2 := HC.out; unfold in64 at *; omega)
      have HE := Lib.hid (show x = a ∨ x ≠ a ∧ x = b from by omega)
      clear hx hy hu
      have tyy : (y != y) = false := by simp
      have txx : (x != x) = false := by simp
      have M1 := Lib.hid (show mergeS 5 a b = (x, 0) from by rw [HX.out]; rfl)
      have M2 := Lib.hid (show mergeS 5 x c = (y, 0) from by rw [HX.out, HY.out]; rfl)
      have M3 := Lib.hid (show mergeS 5 b c = (u, 0) from by rw [HU.out]; rfl)
      have M4 := Lib.hid (show mergeS 5 a u = (y, 0) from by rw [HU.out, HY.out]; show (max a (max b c), (0 : Int)) = _; rw [show max a (max b c) = max (max a b) c from by omega])
      have M5 := Lib.hid (show mergeS 5 b a = (x, 0) from by rw [HX.out]; show (max b a, (0 : Int)) = _; rw [show max b a = max a b from by omega])
      rcases HE.out with hxa | ⟨hxa, hxb⟩
      · have t1 : (x != a) = false := by simpa using hxa
        clear hxa
        go_wp2_with fail
        refine (merge_any 5 a b _ HA.out HB.out).mono ?_
        rintro e w' ⟨rfl, rfl⟩
        rw [M1.out]
        unfold two
        go_wp2_with fail
        refine (merge_any 5 x c _ HXI.out HC.out).mono ?_
        rintro e w' ⟨rfl, rfl⟩
        rw [M2.out]
        unfold two
        go_wp2_with fail
        refine (merge_any 5 b c _ HB.out HC.out).mono ?_
        rintro e w' ⟨rfl, rfl⟩
        rw [M3.out]
        unfold two
        go_wp2_with fail
        refine (merge_any 5 a u _ HA.out HUI.out).mono ?_
        rintro e w' ⟨rfl, rfl⟩
        rw [M4.out]
        unfold two
        go_wp2_with fail
        refine (merge_any 5 b a _ HB.out HA.out).mono ?_
        rintro e w' ⟨rfl, rfl⟩
        rw [M5.out]
        unfold two
        go_wp2
        go_round
        case rel => exact ⟨6, by omega, by omega, rfl⟩
        case measure => simp [intOf]
      · have t1 : (x != a) = true := by simpa using hxa
        have t2 : (x != b) = false := by simpa using hxb
        clear hxa hxb
        go_wp2_with fail
        refine (merge_any 5 a b _ HA.out HB.out).mono ?_
        rintro e w' ⟨rfl, rfl⟩
        rw [M1.out]
        unfold two
        go_wp2_with fail
        refine (merge_any 5 x c _ HXI.out HC.out).mono ?_
        rintro e w' ⟨rfl, rfl⟩
        rw [M2.out]
        unfold two
        go_wp2_with fail
        refine (merge_any 5 b c _ HB.out HC.out).mono ?_
        rintro e w' ⟨rfl, rfl⟩
        rw [M3.out]
        unfold two
        go_wp2_with fail
        refine (merge_any 5 a u _ HA.out HUI.out).mono ?_
        rintro e w' ⟨rfl, rfl⟩
        rw [M4.out]
        unfold two
        go_wp2_with fail
        refine (merge_any 5 b a _ HB.out HA.out).mono ?_
        rintro e w' ⟨rfl, rfl⟩
        rw [M5.out]
        unfold two
        go_wp2
        go_round
        case rel => exact ⟨6, by omega, by omega, rfl⟩
        case measure => simp [intOf]
    · obtain ⟨x, e, M1⟩ : ∃ x e, Hid (mergeS 6 a b = (x, e)) := ⟨_, _, Lib.hid rfl⟩
      obtain ⟨y, f, M2⟩ : ∃ y f, Hid (mergeS 6 x c = (y, f)) := ⟨_, _, Lib.hid rfl⟩
      obtain ⟨u, g, M3⟩ : ∃ u g, Hid (mergeS 6 b c = (u, g)) := ⟨_, _, Lib.hid rfl⟩
      obtain ⟨v, k, M4⟩ : ∃ v k, Hid (mergeS 6 a u = (v, k)) := ⟨_, _, Lib.hid rfl⟩
      have M5 := Lib.hid (show mergeS 6 b a = (x, e) from by rw [← M1.out]; show addS b a = addS a b; exact addS_comm b a)
      have HXI := Lib.hid (show in64 x from by have := mergeS_in 6 a b HA.out HB.out; rw [M1.out] at this; exact this)
      have HUI := Lib.hid (show in64 u from by have := mergeS_in 6 b c HB.out HC.out; rw [M3.out] at this; exact this)
      have HE := Lib.hid (show e = 0 → f = 0 → g = 0 → k = 0 → y = v from by
        have h1 : addS a b = (x, e) := M1.out
        have h2 : addS x c = (y, f) := M2.out
        have h3 : addS b c = (u, g) := M3.out
        have h4 : addS a u = (v, k) := M4.out
        intro e0 f0 g0 k0
        subst e0 f0 g0 k0
        unfold addS at h1 h2 h3 h4
        split at h1 <;> simp at h1
        split at h2 <;> simp at h2
        split at h3 <;> simp at h3
        split at h4 <;> simp at h4
        omega)
      have txx : (x != x) = false := by simp
      have tee : (e != e) = false := by simp
      by_cases he : e = 0
      · have te : (e == 0) = true := by simpa using he
        by_cases hf : f = 0
        · have tf : (f == 0) = true := by simpa using hf
          by_cases hg : g = 0
          · have tg : (g == 0) = true := by simpa using hg
            by_cases hk : k = 0
            · have tk : (k == 0) = true := by simpa using hk
              have tyv : (y != v) = false := by simpa using HE.out he hf hg hk
              clear he hf hg hk
              go_wp2_with fail
              refine (merge_any 6 a b _ HA.out HB.out).mono ?_
              rintro e w' ⟨rfl, rfl⟩
              rw [M1.out]
              unfold two
              go_wp2_with fail
              refine (merge_any 6 x c _ HXI.out HC.out).mono ?_
              rintro e w' ⟨rfl, rfl⟩
              rw [M2.out]
              unfold two
              go_wp2_with fail
              refine (merge_any 6 b c _ HB.out HC.out).mono ?_
              rintro e w' ⟨rfl, rfl⟩
              rw [M3.out]
              unfold two
              go_wp2_with fail
              refine (merge_any 6 a u _ HA.out HUI.out).mono ?_
              rintro e w' ⟨rfl, rfl⟩
              rw [M4.out]
              unfold two
              go_wp2_with fail
              refine (merge_any 6 b a _ HB.out HA.out).mono ?_
              rintro e w' ⟨rfl, rfl⟩
              rw [M5.out]
              unfold two
              go_wp2
              go_round
              case rel => exact ⟨7, by omega, by omega, rfl⟩
              case measure => simp [intOf]
            · have tk : (k == 0) = false := by simpa using hk
              clear hk
              clear he hf hg
              go_wp2_with fail
              refine (merge_any 6 a b _ HA.out HB.out).mono ?_
              rintro e w' ⟨rfl, rfl⟩
              rw [M1.out]
              unfold two
              go_wp2_with fail
              refine (merge_any 6 x c _ HXI.out HC.out).mono ?_
              rintro e w' ⟨rfl, rfl⟩
              rw [M2.out]
              unfold two
              go_wp2_with fail
              refine (merge_any 6 b c _ HB.out HC.out).mono ?_
              rintro e w' ⟨rfl, rfl⟩
              rw [M3.out]
              unfold two
              go_wp2_with fail
              refine (merge_any 6 a u _ HA.out HUI.out).mono ?_
              rintro e w' ⟨rfl, rfl⟩
              rw [M4.out]
              unfold two
              go_wp2_with fail
              refine (merge_any 6 b a _ HB.out HA.out).mono ?_
              rintro e w' ⟨rfl, rfl⟩
              rw [M5.out]
              unfold two
              go_wp2
              go_round
              case rel => exact ⟨7, by omega, by omega, rfl⟩
              case measure => simp [intOf]
          · have tg : (g == 0) = false := by simpa using hg
            clear hg
            clear he hf
            go_wp2_with fail
            refine (merge_any 6 a b _ HA.out HB.out).mono ?_
            rintro e w' ⟨rfl, rfl⟩
            rw [M1.out]
            unfold two
            go_wp2_with fail
            refine (merge_any 6 x c _ HXI.out HC.out).mono ?_
            rintro e w' ⟨rfl, rfl⟩
            rw [M2.out]
            unfold two
            go_wp2_with fail
            refine (merge_any 6 b c _ HB.out HC.out).mono ?_
            rintro e w' ⟨rfl, rfl⟩
            rw [M3.out]
            unfold two
            go_wp2_with fail
            refine (merge_any 6 a u _ HA.out HUI.out).mono ?_
            rintro e w' ⟨rfl, rfl⟩
            rw [M4.out]
            unfold two
            go_wp2_with fail
            refine (merge_any 6 b a _ HB.out HA.out).mono ?_
            rintro e w' ⟨rfl, rfl⟩
            rw [M5.out]
            unfold two
            go_wp2
            go_round
            case rel => exact ⟨7, by omega, by omega, rfl⟩
            case measure => simp [intOf]
        · have tf : (f == 0) = false := by simpa using hf
          clear hf
          clear he
          go_wp2_with fail
          refine (merge_any 6 a b _ HA.out HB.out).mono ?_
          rintro e w' ⟨rfl, rfl⟩
          rw [M1.out]
          unfold two
          go_wp2_with fail
          refine (merge_any 6 x c _ HXI.out HC.out).mono ?_
          rintro e w' ⟨rfl, rfl⟩
          rw [M2.out]
          unfold two
          go_wp2_with fail
          refine (merge_any 6 b c _ HB.out HC.out).mono ?_
          rintro e w' ⟨rfl, rfl⟩
          rw [M3.out]
          unfold two
          go_wp2_with fail
          refine (merge_any 6 a u _ HA.out HUI.out).mono ?_
          rintro e w' ⟨rfl, rfl⟩
          rw [M4.out]
          unfold two
          go_wp2_with fail
          refine (merge_any 6 b a _ HB.out HA.out).mono ?_
          rintro e w' ⟨rfl, rfl⟩
          rw [M5.out]
          unfold two
          go_wp2
          go_round
          case rel => exact ⟨7, by omega, by omega, rfl⟩
          case measure => simp [intOf]
      · have te : (e == 0) = false := by simpa using he
        clear he
        go_wp2_with fail
        refine (merge_any 6 a b _ HA.out HB.out).mono ?_
        rintro e w' ⟨rfl, rfl⟩
        rw [M1.out]
        unfold two
        go_wp2_with fail
        refine (merge_any 6 x c _ HXI.out HC.out).mono ?_
        rintro e w' ⟨rfl, rfl⟩
        rw [M2.out]
        unfold two
        go_wp2_with fail
        refine (merge_any 6 b c _ HB.out HC.out).mono ?_
        rintro e w' ⟨rfl, rfl⟩
        rw [M3.out]
        unfold two
        go_wp2_with fail
        refine (merge_any 6 a u _ HA.out HUI.out).mono ?_
        rintro e w' ⟨rfl, rfl⟩
        rw [M4.out]
        unfold two
        go_wp2_with fail
        refine (merge_any 6 b a _ HB.out HA.out).mono ?_
        rintro e w' ⟨rfl, rfl⟩
        rw [M5.out]
        unfold two
        go_wp2
        go_round
        case rel => exact ⟨7, by omega, by omega, rfl⟩
        case measure => simp [intOf]
    · go_wp2_with fail
      refine (pknown_any _ H.out).mono ?_
      rintro e W2 ⟨rfl, b2⟩
      go_wp2
      go_ret
      exact ⟨rfl, b2⟩

theorem walk (a0 : Int) (a1 : Int) (a2 : Int) (w : World) (h : NamesAt w) (w0 : (Lit.int .i64 a0).wf = true) (w1 : (Lit.int .i64 a1).wf = true) (w2 : (Lit.int .i64 a2).wf = true) :
    Calls Tryd.prog 5 #[.int .i64 a0, .int .i64 a1, .int .i64 a2] w fun e w' => e = .returned (.bool true) ∧ Below w.heap.size w w' := by
  have b0 := bounds_i64 w0
  have b1 := bounds_i64 w1
  have b2 := bounds_i64 w2
  exact walk0 a0 a1 a2 w h ⟨by omega, by omega⟩ ⟨by omega, by omega⟩ ⟨by omega, by omega⟩

set_option maxRecDepth 100000 in
theorem lifted (os : Os) (started : os.Started) (H : Type) (enc : TypeId × Value → H) :
    ReturnsInHanded {} Tryd.checked os 5 .any (fun w args => (Rows.policyOrdersSpec.pre enc Tryd.prog Tryd.f5 [] false w args ∧ laidMetH Tryd.prog laidL w) ∧ sizedMet enc Tryd.prog Tryd.f5 (OpenSpec.ofChange Rows.policyOrdersSpec) false w args)
      (Rows.policyOrdersSpec.post enc Tryd.prog Tryd.f5 false true false false) := by
  refine returnsInHanded_of_change_and (C := Tryd.checked) (X := fun w _ => laidMetH Tryd.prog laidL w) (fun _ _ _ hh h => h.of_heap hh) own started (by kernel_rfl) Tryd.func5
    (ChangeSpec.witness_shaped (enc := enc) (C := Tryd.checked) (os := os) (X := fun w _ => laidMetH Tryd.prog laidL w) false (World.doorLaid Tryd.prog 400 os) #[.int .i64 0, .int .i64 0, .int .i64 0] 8 rfl (World.shaped_of_RefB (by kernel_rfl) (by kernel_rfl)) (by kernel_rfl) (by kernel_rfl) (by kernel_rfl) (door_met os _)) ?_
  intro W base args ds gs before hval0 hW _ _ hL _
  have hval : ∀ (j : Nat) t v, Tryd.f5.params[j]? = some t → args[j]? = some v → Value.okWide Tryd.prog W .any base t v := hval0
  have hW' := hW
  obtain ⟨p, q, hA0, hV, rfl, hfz, hnd⟩ := hW
  have hA : DataW.TrodAll enc Tryd.prog W 0 (fun _ => true) true Tryd.f5.params.toList args.toList ds p := hA0
  rw [Tryd.params5] at hA hval
  obtain ⟨v0, vs0, d0, ds0, p0, q0, hargs, rfl, rfl, h0, r0⟩ := trodAll_cons hA
  obtain ⟨v1, vs1, d1, ds1, p1, q1, rfl, rfl, rfl, h1, r1⟩ := trodAll_cons r0
  obtain ⟨v2, vs2, d2, ds2, p2, q2, rfl, rfl, rfl, h2, r2⟩ := trodAll_cons r1
  obtain ⟨rfl, rfl, rfl⟩ := trodAll_nil r2
  obtain rfl : args = #[v0, v1, v2] := by cases args; simp_all
  obtain ⟨rfl, rfl⟩ := trodVars_none hV
  obtain ⟨a0, rfl, rfl, rfl, w0⟩ := open_int Tryd.underlying3 (hval 0 3 v0 rfl rfl) h0
  obtain ⟨a1, rfl, rfl, rfl, w1⟩ := open_int Tryd.underlying3 (hval 1 3 v1 rfl rfl) h1
  obtain ⟨a2, rfl, rfl, rfl, w2⟩ := open_int Tryd.underlying3 (hval 2 3 v2 rfl rfl) h2
  clear hA0 hval0
  refine (walk a0 a1 a2 W (names_of_laid hL) w0 w1 w2).mono fun e W' ⟨he, bel⟩ => ?_
  subst he
  exact ⟨_, rfl, _, _, _, [], _, [], hW', trodAll_mk1 (shut_bool Tryd.underlying4 _), (trodAll_cons_mk (shut_int Tryd.underlying3 w0) (trodAll_cons_mk (shut_int Tryd.underlying3 w1) (trodAll_cons_mk (shut_int Tryd.underlying3 w2) trodAll_mk0))), rfl, bel.frame _, fun h => by cases h⟩

theorem over : Rows.policyOrdersRow.holds Tryd.pinned (OpenSpec.ofChange Rows.policyOrdersSpec) :=
  OpenClaim.holds_of_wide 5 Tryd.f5 rfl rfl rfl rfl rfl rfl rfl ⟨rfl, rfl, rfl, rfl, rfl⟩ rfl rfl rfl rfl rfl (by kernel_rfl) Tryd.func5 (by kernel_rfl)
    (of_decide_eq_true (by kernel_rfl)) (by unfold Func.isWrapper; first | (rw [if_pos (by decide +kernel)]; kernel_rfl) | (rw [if_neg (by decide +kernel)]; exact ⟨rfl, rfl⟩))
    (fun os started H enc _ => lifted os started H enc)

theorem proved : Rows.PolicyOrdersCardSaid :=
  Claim7.holds_tied_plain_at .later [] Rows.policyOrdersCard.laidKinds true Rows.policyOrdersCard.stood.harness false
    over (fun _ h => by cases h) (by kernel_rfl) (fun _ h => by cases h) policyOrders_row_tie rfl ⟨rfl, rfl⟩ (by kernel_rfl) rfl
    (fun f fn hf hfn => by
      obtain rfl : f = 5 := Option.some.inj ((show Tryd.prog.funcNamed "tachograph/tachographlaw03.PolicyOrders" = some 5 by kernel_rfl).symm.trans hf) |>.symm
      obtain rfl : fn = Tryd.f5 := (Option.some.inj (Tryd.func5.symm.trans hfn)).symm
      exact ⟨by kernel_rfl, fun j t ht => by
        rw [Tryd.params5] at ht
        have hm : t ∈ [3, 3, 3] := by simpa using Array.mem_of_getElem? ht
        have hall : ([3, 3, 3].all fun u => !Tryd.prog.wantsStandIn u) = true := by kernel_rfl
        exact (show Tryd.prog.wantsStandIn t = false by simpa using List.all_eq_true.1 hall t hm)⟩)
    (by kernel_rfl)
end policyOrders
theorem policyOrders_holds : Rows.PolicyOrdersCardSaid := policyOrders.proved
#print axioms policyOrders_holds
end Go.Proofs.YtnjfnmgbmkkehaaDoor
