/-
  The fixed calls that each statement of layer 1 ends with come out as they must: 'known' returns true, and writes nothing that was there.
-/
import Derived.Test.YtgeldifemnffbaaBytes
namespace Go.Proofs.Ytgeldifemnffbaa
open Go.RowKit
set_option linter.unusedVariables false

theorem bel_gb {B : Nat} {w w1 w2 : World} {k : Nat} (h : Below B w w1) (hB : B ≤ w1.heap.size) (hk : B ≤ k) (g : w1.grownBy w2 (some k)) : Below B w w2 :=
  ⟨g.os.trans h.os, g.tape.trans h.tape, g.output.trans h.output, Nat.le_trans h.size g.size, fun i hi => (g.block i (Nat.lt_of_lt_of_le hi hB) (by simp; omega)).trans (h.block i hi)⟩
theorem bel_gbn {B : Nat} {w w1 w2 : World} (h : Below B w w1) (hB : B ≤ w1.heap.size) (g : w1.grownBy w2 none) : Below B w w2 :=
  ⟨g.os.trans h.os, g.tape.trans h.tape, g.output.trans h.output, Nat.le_trans h.size g.size, fun i hi => (g.block i (Nat.lt_of_lt_of_le hi hB) (by simp)).trans (h.block i hi)⟩

/-- A Writer of zeros, just made. -/
theorem wr_new (w : World) : WrAt (w.alloc (.cells #[.pointer none, .int .u64 0, .int .i64 0] 27)) w.heap.size [] :=
  ⟨none, [], [], rfl, by simp, by rw [heap_new]; rfl, rfl⟩

/-! The contracts over plain Int arguments. -/
theorem put_okI (b : Nat) (xs : List Bool) (u n : Int) (w : World) (hw : WrAt w b xs) (hl : xs.length + n.toNat < 1099511627776) (hu0 : 0 ≤ u) (hu : u < 18446744073709551616) (hn0 : 0 ≤ n) (hn : n ≤ 64) (hf : u.toNat < 2 ^ n.toNat) :
    Calls Try.prog 11 #[.pointer (some ⟨b, 0, none⟩), .int .u64 u, .int .i64 n] w (PutN b (xs ++ bitsOf u.toNat n.toNat) w) := by
  have h := put_ok b xs u.toNat n.toNat w hw hl (by omega) (by omega) hf
  rwa [Int.toNat_of_nonneg hu0, Int.toNat_of_nonneg hn0] at h
theorem put_badI (b : Nat) (u n : Int) (w : World) (hu0 : 0 ≤ u) (hu : u < 18446744073709551616) (hf : fits u.toNat n = false) :
    Calls Try.prog 11 #[.pointer (some ⟨b, 0, none⟩), .int .u64 u, .int .i64 n] w fun e w' => e = .returned (.int .i64 1) ∧ w = w' := by
  have h := put_bad b u.toNat n w (by omega) hf
  rwa [Int.toNat_of_nonneg hu0] at h
theorem get_okI (b : Nat) (bs : List Bool) (p : Nat) (n : Int) (w : World) (h : RdAt w b bs p) (hn0 : 0 ≤ n) (hn : n ≤ 64) (hlt : p + n.toNat ≤ bs.length) :
    Calls Try.prog 21 #[.pointer (some ⟨b, 0, none⟩), .int .i64 n] w (GetP b bs p n.toNat w) := by
  have h := get_ok b bs p n.toNat w h (by omega) hlt
  rwa [Int.toNat_of_nonneg hn0] at h
theorem get_shortI (b : Nat) (bs : List Bool) (p : Nat) (n : Int) (w : World) (h : RdAt w b bs p) (hn0 : 0 ≤ n) (hn : n ≤ 64) (hlt : bs.length < p + n.toNat) :
    Calls Try.prog 21 #[.pointer (some ⟨b, 0, none⟩), .int .i64 n] w fun e w' => e = .returned (.tuple #[.int .u64 0, .int .i64 3]) ∧ Drew w w' := by
  have h := get_short b bs p n.toNat w h (by omega) hlt
  rwa [Int.toNat_of_nonneg hn0] at h
theorem seek_okI (b : Nat) (bs : List Bool) (p : Nat) (n : Int) (w : World) (h : RdAt w b bs p) (hn0 : 0 ≤ n) (hn : n.toNat ≤ bs.length) :
    Calls Try.prog 20 #[.pointer (some ⟨b, 0, none⟩), .int .i64 n] w (SeekP b bs n.toNat w) := by
  have h := seek_ok b bs p n.toNat w h hn
  rwa [Int.toNat_of_nonneg hn0] at h
theorem read_okI (s : ByteArray) (n : Int) (w : World) (hs : s.size ≤ 140737488355328) (hn0 : 0 ≤ n) (hn : n ≤ 8 * (s.size : Int)) :
    Calls Try.prog 18 #[.string s, .int .i64 n] w (ReadP (bitsL s.data.toList n.toNat) w) := by
  have h := read_ok s n.toNat w hs (by omega)
  rwa [Int.toNat_of_nonneg hn0] at h

theorem pack5 : packL [true, false, true, false, true] = [168] := by decide
theorem bits5 : bitsL [168] 5 = [true, false, true, false, true] := by decide

set_option maxRecDepth 100000 in
set_option maxHeartbeats 1000000 in
theorem known_any (w : World) :
    Calls Try.prog 17 #[] w fun e w' => e = .returned (.bool true) ∧ Below w.heap.size w w' := by
  go_enter Try.func17, Try.ntmps17
  go_wp2_with fail
  have B1 := (Below.refl w.heap.size w).alloc (Nat.le_refl _) (.cells #[.pointer none, .int .u64 0, .int .i64 0] 27)
  have hw1 := wr_new w
  have s1 : w.heap.size ≤ (w.alloc (.cells #[.pointer none, .int .u64 0, .int .i64 0] 27)).heap.size := by simp
  generalize w.alloc (.cells #[.pointer none, .int .u64 0, .int .i64 0] 27) = W1 at *
  refine (put_okI w.heap.size [] _ _ _ hw1 (by simp) (by omega) (by omega) (by omega) (by omega) (by decide)).mono ?_
  rintro e W2 ⟨rfl, hw2, g2⟩
  have B2 := bel_gb B1 s1 (Nat.le_refl _) g2
  have s2 := Nat.le_trans s1 g2.size
  clear B1 s1 g2 hw1 W1
  go_wp2_with fail
  refine (put_okI w.heap.size _ _ _ _ hw2 (by simp [bitsOf]) (by omega) (by omega) (by omega) (by omega) (by decide)).mono ?_
  rintro e W3 ⟨rfl, hw3, g3⟩
  have B3 := bel_gb B2 s2 (Nat.le_refl _) g3
  have s3 := Nat.le_trans s2 g3.size
  clear B2 s2 g3 hw2 W2
  replace hw3 : WrAt W3 w.heap.size [true, false, true, false, true] := hw3
  go_wp2_with fail
  refine (put_badI w.heap.size _ _ _ (by omega) (by omega) (by decide)).mono ?_
  rintro e w' ⟨rfl, rfl⟩
  go_wp2_with fail
  refine (bytes_any w.heap.size _ _ hw3 (by simp)).mono ?_
  rintro e W4 ⟨rfl, b4⟩
  have hw4 := hw3.keep_none (gb_below b4)
  have B4 := bel_gbn B3 s3 (gb_below b4)
  have s4 := Nat.le_trans s3 b4.size
  clear B3 s3 b4 hw3 W3
  rw [pack5]
  go_wp2_with fail
  refine (read_okI _ _ _ (by decide) (by decide) (by decide)).mono ?_
  rintro e W5 ⟨k, rfl, hr5, hk, b5⟩
  have hw5 := hw4.keep_none (gb_below b5)
  have B5 := bel_gbn B4 s4 (gb_below b5)
  have s5 := Nat.le_trans s4 b5.size
  have hk' := Nat.le_trans s4 hk
  clear B4 s4 b5 hw4 hk W4
  replace hr5 : RdAt W5 k [true, false, true, false, true] 0 := by
    have e : bitsL ((⟨[168].toArray⟩ : ByteArray)).data.toList (5 : Int).toNat = [true, false, true, false, true] := bits5
    rw [e] at hr5; exact hr5
  go_wp2_with fail
  refine (read_bad _ _ _ (by decide) (by decide)).mono ?_
  rintro e w' ⟨rfl, rfl⟩
  go_wp2_with fail
  have hne : w.heap.size ≠ k := ne_wr_rd hw5 hr5
  refine (get_okI k _ 0 _ _ hr5 (by omega) (by omega) (by decide)).mono ?_
  rintro e W6 ⟨rfl, hr6, g6⟩
  have hw6 := hw5.keep g6 hne hr5.apart
  have B6 := bel_gb B5 s5 hk' g6
  have s6 := Nat.le_trans s5 g6.size
  clear B5 s5 g6 hw5 hr5 W5
  rw [show num (List.take (3 : Int).toNat (List.drop 0 [true, false, true, false, true])) = 5 from by decide]
  replace hr6 : RdAt W6 k [true, false, true, false, true] 3 := hr6
  go_wp2_with fail
  refine (left_any k _ 3 _ hr6).mono ?_
  rintro e W7 ⟨rfl, d7⟩
  have hr7 := hr6.keep (d7.gb none) (by simp)
  have hw7 := hw6.keep_none (d7.gb none)
  have B7 := bel_gbn B6 s6 (d7.gb none)
  have s7 := Nat.le_trans s6 (d7.gb none).size
  clear B6 s6 d7 hw6 hr6 W6
  rw [show ((List.length [true, false, true, false, true] : Nat) : Int) - ((3 : Nat) : Int) = 2 from by decide]
  go_wp2_with fail
  refine (get_shortI k _ 3 _ _ hr7 (by omega) (by omega) (by decide)).mono ?_
  rintro e W8 ⟨rfl, d8⟩
  have hr8 := hr7.keep (d8.gb none) (by simp)
  have hw8 := hw7.keep_none (d8.gb none)
  have B8 := bel_gbn B7 s7 (d8.gb none)
  have s8 := Nat.le_trans s7 (d8.gb none).size
  clear B7 s7 d8 hw7 hr7 W7
  go_wp2_with fail
  refine (seek_okI k _ 3 _ _ hr8 (by omega) (by decide)).mono ?_
  rintro e W9 ⟨rfl, hr9, g9⟩
  have hw9 := hw8.keep g9 hne hr8.apart
  have B9 := bel_gb B8 s8 hk' g9
  have s9 := Nat.le_trans s8 g9.size
  clear B8 s8 g9 hw8 hr8 W8
  replace hr9 : RdAt W9 k [true, false, true, false, true] 3 := hr9
  go_wp2_with fail
  refine (get_okI k _ 3 _ _ hr9 (by omega) (by omega) (by decide)).mono ?_
  rintro e W10 ⟨rfl, hr10, g10⟩
  have hw10 := hw9.keep g10 hne hr9.apart
  have B10 := bel_gb B9 s9 hk' g10
  have s10 := Nat.le_trans s9 g10.size
  clear B9 s9 g10 hw9 hr9 W9
  rw [show num (List.take (2 : Int).toNat (List.drop 3 [true, false, true, false, true])) = 1 from by decide]
  go_wp2_with fail
  refine (len_any w.heap.size _ _ hw10).mono ?_
  rintro e w' ⟨rfl, rfl⟩
  rw [show ((List.length [true, false, true, false, true] : Nat) : Int) = 5 from by decide]
  go_wp2_with fail
  refine (bytes_any w.heap.size _ _ hw10 (by simp)).mono ?_
  rintro e W11 ⟨rfl, b11⟩
  have hr11 := hr10.keep (gb_below (row := none) b11) (by simp)
  have B11 := bel_gbn B10 s10 (gb_below b11)
  clear B10 s10 b11 hw10 hr10 W10
  rw [pack5]
  go_wp2_with fail
  refine (seek_bad k _ _ _ _ hr11 (by simp)).mono ?_
  rintro e w' ⟨rfl, rfl⟩
  go_wp2_with fail
  refine (zig_any _ _ (by omega) (by omega)).mono ?_
  rintro e w' ⟨rfl, rfl⟩
  rw [show zig (-1) = 1 from by decide]
  go_wp2_with fail
  refine (zig_any _ _ (by omega) (by omega)).mono ?_
  rintro e w' ⟨rfl, rfl⟩
  rw [show zig 2 = 4 from by decide]
  go_wp2_with fail
  refine (zag_any _ _ (by omega) (by omega)).mono ?_
  rintro e w' ⟨rfl, rfl⟩
  rw [show zag 3 = -2 from by decide]
  go_wp2
  go_ret
  exact ⟨rfl, B11⟩

end Go.Proofs.Ytgeldifemnffbaa
