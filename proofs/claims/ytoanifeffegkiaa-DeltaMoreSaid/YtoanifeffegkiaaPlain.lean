/-
  Small facts on what is written below a mark, and the contracts of package bits over plain Int arguments.
-/
import Derived.Test.YtoanifeffegkiaaBytes
namespace Go.Proofs.Ytoanifeffegkiaa
open Go.RowKit
set_option linter.unusedVariables false

theorem bel_gb {B : Nat} {w w1 w2 : World} {k : Nat} (h : Below B w w1) (hB : B ≤ w1.heap.size) (hk : B ≤ k) (g : w1.grownBy w2 (some k)) : Below B w w2 :=
  ⟨g.os.trans h.os, g.tape.trans h.tape, g.output.trans h.output, Nat.le_trans h.size g.size, fun i hi => (g.block i (Nat.lt_of_lt_of_le hi hB) (by simp; omega)).trans (h.block i hi)⟩
theorem bel_gbn {B : Nat} {w w1 w2 : World} (h : Below B w w1) (hB : B ≤ w1.heap.size) (g : w1.grownBy w2 none) : Below B w w2 :=
  ⟨g.os.trans h.os, g.tape.trans h.tape, g.output.trans h.output, Nat.le_trans h.size g.size, fun i hi => (g.block i (Nat.lt_of_lt_of_le hi hB) (by simp)).trans (h.block i hi)⟩

/-- A Writer of zeros, just made. -/
theorem wr_new (w : World) : WrAt (w.alloc (.cells #[.pointer none, .int .u64 0, .int .i64 0] 28)) w.heap.size [] :=
  ⟨none, [], [], rfl, by simp, by rw [heap_new]; rfl, rfl⟩

/-! The contracts over plain Int arguments. -/
theorem put_okI (b : Nat) (xs : List Bool) (u n : Int) (w : World) (hw : WrAt w b xs) (hl : xs.length + n.toNat < 1099511627776) (hu0 : 0 ≤ u) (hu : u < 18446744073709551616) (hn0 : 0 ≤ n) (hn : n ≤ 64) (hf : u.toNat < 2 ^ n.toNat) :
    Calls Try.prog 32 #[.pointer (some ⟨b, 0, none⟩), .int .u64 u, .int .i64 n] w (PutN b (xs ++ bitsOf u.toNat n.toNat) w) := by
  have h := put_ok b xs u.toNat n.toNat w hw hl (by omega) (by omega) hf
  rwa [Int.toNat_of_nonneg hu0, Int.toNat_of_nonneg hn0] at h
theorem put_badI (b : Nat) (u n : Int) (w : World) (hu0 : 0 ≤ u) (hu : u < 18446744073709551616) (hf : fits u.toNat n = false) :
    Calls Try.prog 32 #[.pointer (some ⟨b, 0, none⟩), .int .u64 u, .int .i64 n] w fun e w' => e = .returned (.int .i64 1) ∧ w = w' := by
  have h := put_bad b u.toNat n w (by omega) hf
  rwa [Int.toNat_of_nonneg hu0] at h
theorem get_okI (b : Nat) (bs : List Bool) (p : Nat) (n : Int) (w : World) (h : RdAt w b bs p) (hn0 : 0 ≤ n) (hn : n ≤ 64) (hlt : p + n.toNat ≤ bs.length) :
    Calls Try.prog 46 #[.pointer (some ⟨b, 0, none⟩), .int .i64 n] w (GetP b bs p n.toNat w) := by
  have h := get_ok b bs p n.toNat w h (by omega) hlt
  rwa [Int.toNat_of_nonneg hn0] at h
theorem get_shortI (b : Nat) (bs : List Bool) (p : Nat) (n : Int) (w : World) (h : RdAt w b bs p) (hn0 : 0 ≤ n) (hn : n ≤ 64) (hlt : bs.length < p + n.toNat) :
    Calls Try.prog 46 #[.pointer (some ⟨b, 0, none⟩), .int .i64 n] w fun e w' => e = .returned (.tuple #[.int .u64 0, .int .i64 3]) ∧ Drew w w' := by
  have h := get_short b bs p n.toNat w h (by omega) hlt
  rwa [Int.toNat_of_nonneg hn0] at h
theorem seek_okI (b : Nat) (bs : List Bool) (p : Nat) (n : Int) (w : World) (h : RdAt w b bs p) (hn0 : 0 ≤ n) (hn : n.toNat ≤ bs.length) :
    Calls Try.prog 55 #[.pointer (some ⟨b, 0, none⟩), .int .i64 n] w (SeekP b bs n.toNat w) := by
  have h := seek_ok b bs p n.toNat w h hn
  rwa [Int.toNat_of_nonneg hn0] at h
theorem read_okI (s : ByteArray) (n : Int) (w : World) (hs : s.size ≤ 140737488355328) (hn0 : 0 ≤ n) (hn : n ≤ 8 * (s.size : Int)) :
    Calls Try.prog 21 #[.string s, .int .i64 n] w (ReadP (bitsL s.data.toList n.toNat) w) := by
  have h := read_ok s n.toNat w hs (by omega)
  rwa [Int.toNat_of_nonneg hn0] at h

end Go.Proofs.Ytoanifeffegkiaa
