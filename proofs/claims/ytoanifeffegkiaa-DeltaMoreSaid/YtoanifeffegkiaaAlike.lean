/-
  Contract of the statements' own 'alike': two Readers of the same bits are alike, and nothing older than them is written.
-/
import Derived.Test.YtoanifeffegkiaaUse
namespace Go.Proofs.Ytoanifeffegkiaa
open Go.RowKit
set_option linter.unusedVariables false
set_option linter.unusedSimpArgs false

def leftIn (len ra : Nat) (w : World) : Nat :=
  match w.cell? ⟨ra, 3, none⟩ with
  | some (.int _ n) => len - n.toNat
  | _ => 0
theorem leftIn_rd {w : World} {ra p : Nat} {xs : List Bool} (h : RdAt w ra xs p) : leftIn xs.length ra w = xs.length - p := by
  obtain ⟨t, hb, _⟩ := h
  have : w.cell? ⟨ra, 3, none⟩ = some (.int .i64 (p : Nat)) := by rw [cell_of hb]; rfl
  simp [leftIn, this]

set_option maxRecDepth 100000 in
set_option maxHeartbeats 1000000 in
theorem alike_any (ra rb B : Nat) (xs : List Bool) (w : World) (h1 : RdAt w ra xs 0) (h2 : RdAt w rb xs 0) (hne : ra ≠ rb) (hra : B ≤ ra) (hrb : B ≤ rb) (hB : B ≤ w.heap.size) :
    Calls Try.prog 28 #[.pointer (some ⟨ra, 0, none⟩), .pointer (some ⟨rb, 0, none⟩)] w fun e w' => e = .returned (.bool true) ∧ Below B w w' := by
  have hle := h1.le
  have H1 := Lib.hid h1
  have H2 := Lib.hid h2
  clear h1 h2
  go_enter Try.func28, Try.ntmps28
  go_wp2
  go_loopw [5] (fun _ wr => ∃ p : Nat, p ≤ xs.length ∧ RdAt wr ra xs p ∧ RdAt wr rb xs p ∧ Below B w wr ∧ B ≤ wr.heap.size) (fun _ wr => leftIn xs.length ra wr)
  case atStart => exact ⟨0, Nat.zero_le _, H1.out, H2.out, Below.refl _ _, hB⟩
  case round =>
    obtain ⟨p, hp, r1, r2, B1, s1⟩ := hrel
    have HM := Lib.hid (leftIn_rd r1)
    rw [show leftIn xs.length ra wr = xs.length - p from HM.out]
    clear HM
    go_wp2_with fail
    refine (left_any ra xs p _ r1).mono ?_
    rintro e W2 ⟨rfl, d2⟩
    have r1a := r1.keep (d2.gb none) (by simp)
    have r2a := r2.keep (d2.gb none) (by simp)
    have B2 := bel_gbn B1 s1 (d2.gb none)
    have s2 := Nat.le_trans s1 (d2.gb none).size
    clear r1 r2 B1 s1 d2
    by_cases hlt : p < xs.length
    · obtain ⟨L, hL⟩ : ∃ L : Nat, xs.length - p = L := ⟨_, rfl⟩
      have hLI : (xs.length : Int) - (p : Int) = (L : Int) := by omega
      have hL0 : 0 < L := by omega
      have hL1 : (0 : Int) < (L : Int) := by omega
      rw [hLI]
      go_wp2_with fail
      refine (left_any rb xs p _ r2a).mono ?_
      rintro e W3 ⟨rfl, d3⟩
      have r1b := r1a.keep (d3.gb none) (by simp)
      have r2b := r2a.keep (d3.gb none) (by simp)
      have B3 := bel_gbn B2 s2 (d3.gb none)
      have s3 := Nat.le_trans s2 (d3.gb none).size
      rw [hLI]
      clear r1a r2a B2 s2 d3
      go_wp2_with fail
      refine (left_any ra xs p _ r1b).mono ?_
      rintro e W4 ⟨rfl, d4⟩
      have r1c := r1b.keep (d4.gb none) (by simp)
      have r2c := r2b.keep (d4.gb none) (by simp)
      have B4 := bel_gbn B3 s3 (d4.gb none)
      have s4 := Nat.le_trans s3 (d4.gb none).size
      rw [hLI]
      clear r1b r2b B3 s3 d4
      go_wp2_with fail
      refine (left_any rb xs p _ r2c).mono ?_
      rintro e W5 ⟨rfl, d5⟩
      have r1d := r1c.keep (d5.gb none) (by simp)
      have r2d := r2c.keep (d5.gb none) (by simp)
      have B5 := bel_gbn B4 s4 (d5.gb none)
      have s5 := Nat.le_trans s4 (d5.gb none).size
      rw [hLI]
      clear r1c r2c B4 s4 d5
      have HLI := Lib.hid hLI
      have HL := Lib.hid hL
      clear hLI hL
      by_cases h64 : 64 ≤ L
      all_goals
        go_wp2_with fail
        refine (get_okE ra xs p _ _ r1d (by omega) (by omega) (by have := HLI.out; omega)).mono ?_
        rintro e W6 ⟨u, m, hm, rfl, HU, hul, _, r1e, g6⟩
        have r2e := r2d.keep g6 (by simp; omega)
        have B6 := bel_gb B5 s5 hra g6
        have s6 := Nat.le_trans s5 g6.size
        have HMM := Lib.hid hm
        have hm0 : 0 < m ∧ m ≤ L := by omega
        clear r1d r2d B5 s5 g6 hm
        go_wp2_with fail
        refine (get_okE rb xs p _ _ r2e (by omega) (by omega) (by have := HLI.out; omega)).mono ?_
        rintro e W7 ⟨u', m', hm', rfl, HU', hul', _, r2f, g7⟩
        have r1f := r1e.keep g7 (by simp; omega)
        have B7 := bel_gb B6 s6 hrb g7
        have s7 := Nat.le_trans s6 g7.size
        obtain rfl : m = m' := by have := HMM.out; omega
        obtain rfl : u = u' := by rw [HU.out, HU'.out]
        have hxx : ((u : Int) != (u : Int)) = false := by simp
        have HM7 := Lib.hid (leftIn_rd r1f)
        clear r1e r2e B6 s6 g7 hm' HMM HU HU'
        go_wp2
        go_roundw
        case rel => exact ⟨p + m, by have := HL.out; omega, r1f, r2f, B7, s7⟩
        case measure => rw [HM7.out]; have := HL.out; omega
    · obtain rfl : p = xs.length := by omega
      rw [show ((xs.length : Int) - (xs.length : Int)) = 0 from by omega]
      clear hlt
      go_wp2_with fail
      refine (left_any ra xs xs.length _ r1a).mono ?_
      rintro e W3 ⟨rfl, d3⟩
      have r2b := r2a.keep (d3.gb none) (by simp)
      have B3 := bel_gbn B2 s2 (d3.gb none)
      have s3 := Nat.le_trans s2 (d3.gb none).size
      rw [show ((xs.length : Int) - (xs.length : Int)) = 0 from by omega]
      clear r1a r2a B2 s2 d3
      go_wp2_with fail
      refine (left_any rb xs xs.length _ r2b).mono ?_
      rintro e W4 ⟨rfl, d4⟩
      have B4 := bel_gbn B3 s3 (d4.gb none)
      rw [show ((xs.length : Int) - (xs.length : Int)) = 0 from by omega]
      clear r2b B3 s3 d4
      go_wp2
      go_ret
      exact ⟨rfl, B4⟩

end Go.Proofs.Ytoanifeffegkiaa
