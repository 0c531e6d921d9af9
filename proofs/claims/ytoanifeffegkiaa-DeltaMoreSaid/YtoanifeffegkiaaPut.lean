/-
  Contracts of (*Writer).putBit, spread, (*Writer).Put, (*Writer).Len of package bits: what is put stands behind all other bits.
  Condition: the Writer has fewer than 2^40 bits.
-/
import Derived.Test.YtoanifeffegkiaaHeap
import Derived.RegionTactic
import Derived.ChangeAlike
namespace Go.Proofs.Ytoanifeffegkiaa
open Go.RowKit

theorem or_bit (o : Nat) (x : Bool) (h : o < 9223372036854775808) : bits .or .u64 ((o : Int) * 2) (x.toNat : Int) = ((2 * o + x.toNat : Nat) : Int) := by
  have hx : x.toNat < 2 ^ 1 := by cases x <;> simp
  have := u64_or_nat (2 * o) x.toNat (by omega) (by omega)
  rw [show ((o : Int) * 2) = ((2 * o : Nat) : Int) from by omega, this, nat_join 1 (2 * o) x.toNat (by omega) hx]

theorem num_op_lt {op : List Bool} (h : op.length < 64) : num op < 9223372036854775808 := by
  have h1 := num_lt op
  have h2 : 2 ^ op.length ≤ 2 ^ 63 := Nat.pow_le_pow_right (by omega) (by omega)
  have h3 : (2 : Nat) ^ 63 = 9223372036854775808 := by decide
  omega

def PutB (b : Nat) (xs : List Bool) (w : World) (e : Ending) (w' : World) : Prop := e = .returned (.tuple #[]) ∧ WrAt w' b xs ∧ w.grownBy w' (some b)

set_option maxHeartbeats 400000 in
theorem putBit_any (b : Nat) (xs : List Bool) (x : Bool) (w : World) (h : WrAt w b xs) (hl : xs.length < 1099511627776) :
    Calls Try.prog 49 #[.pointer (some ⟨b, 0, none⟩), .int .u64 (x.toNat : Int)] w (PutB b (xs ++ [x]) w) := by
  obtain ⟨p, bl, op, hx, ho, hb, hch⟩ := h
  have hlen := flat_len hch
  have hxl : xs.length = 64 * bl.length + op.length := by rw [hx, List.length_append, hlen]
  have hn := num_op_lt ho
  have H := Lib.hid (or_bit (num op) x hn)
  have HX := Lib.hid hx
  have HL := Lib.hid hxl
  have HB := Lib.hid hb
  have hc0 : w.cell? ⟨b, 0, none⟩ = some (.pointer p) := by rw [cell_of hb]; rfl
  have hc1 : w.cell? ⟨b, 1, none⟩ = some (.int .u64 (num op : Nat)) := by rw [cell_of hb]; rfl
  have hc2 : w.cell? ⟨b, 2, none⟩ = some (.int .i64 (xs.length : Nat)) := by rw [cell_of hb]; rfl
  have hf0 : w.frozen? ⟨b, 0, none⟩ = false := frozen_of hb
  have hf1 : w.frozen? ⟨b, 1, none⟩ = false := frozen_of hb
  have hf2 : w.frozen? ⟨b, 2, none⟩ = false := frozen_of hb
  have hbl := heap_lt hb
  have HCH := Lib.hid hch
  clear hx hxl hb hch hlen
  by_cases h63 : op.length = 63
  · have ht : (((xs.length : Int) + 1) % 64 == 0) = true := by have := HL.out; simp; omega
    have H63 := Lib.hid h63
    clear h63
    go_enter Try.func49, Try.ntmps49
    go_wp2
    go_region
    all_goals go_wp2
    go_end0
    refine ⟨rfl, ⟨some ⟨w.heap.size, 0, none⟩, (op ++ [x]) :: bl, [], ?_, by simp, ?_, ?_⟩, ?_⟩
    · rw [HX.out]; simp [flat]
    · rw [heap_drew]
      refine heap_old ?_
      refine (heap_set (heap_set (heap_set (heap_set HB.out)))).trans ?_
      simp [num]
    · refine ⟨w.heap.size, p, rfl, by simp [H63.out], ?_, ?_⟩
      · rw [heap_drew, H.out, num_snoc]
        have := heap_new ((((w.setCell ⟨b, 1, none⟩ (.int .u64 ((2 * num op + x.toNat : Nat) : Int))).setCell ⟨b, 2, none⟩ (.int .i64 ((xs.length : Int) + 1))).setCell ⟨b, 0, none⟩ (.pointer (some ⟨w.heap.size, 0, none⟩))).setCell ⟨b, 1, none⟩ (.int .u64 0)) (.cells #[.int .u64 ((2 * num op + x.toNat : Nat) : Int), .pointer p] 76)
        simpa [World.setCell] using this
      · refine HCH.out.keep fun k c hk => ?_
        have hne : k ≠ b := by
          intro e; subst e
          have := HB.out; rw [hk] at this; simp at this
        rw [heap_drew, Below.heap_alloc _ _ _ (by have := heap_lt hk; simpa [World.setCell] using this), heap_set_ne hne, heap_set_ne hne, heap_set_ne hne, heap_set_ne hne]
    · exact gb_drew (gb_alloc (gb_set (gb_set (gb_set (gb_set (gb_refl _ _) _ _) _ _) _ _) _ _) _)
  · have ht : (((xs.length : Int) + 1) % 64 == 0) = false := by have := HL.out; simp; omega
    go_enter Try.func49, Try.ntmps49
    go_wp2
    go_end0
    refine ⟨rfl, ⟨p, bl, op ++ [x], ?_, by simp; omega, ?_, ?_⟩, ?_⟩
    · rw [HX.out]; simp
    · refine (heap_set (heap_set HB.out)).trans ?_
      rw [H.out, num_snoc]; simp
    · refine HCH.out.keep fun k c hk => ?_
      have hne : k ≠ b := by
        intro e; subst e
        have := HB.out; rw [hk] at this; simp at this
      rw [heap_set_ne hne, heap_set_ne hne]
    · exact gb_set (gb_set (gb_refl _ _) _ _) _ _

theorem and_bit (u n : Nat) (h : u < 18446744073709551616) : bits .and .u64 ((u : Int) / 2 ^ n) 1 = (((u / 2 ^ n % 2 == 1).toNat : Nat) : Int) := by
  have h1 : u / 2 ^ n < 18446744073709551616 := Nat.lt_of_le_of_lt (Nat.div_le_self _ _) h
  have := u64_and_nat (u / 2 ^ n) 1 h1 (by omega)
  rw [nat_mask1] at this
  rw [toNat_odd, ← this]
  congr 1

set_option maxHeartbeats 400000 in
theorem spread_any (b : Nat) (xs : List Bool) (u many : Nat) (w : World) (h : WrAt w b xs) (hl : xs.length + many < 1099511627776) (hu : u < 18446744073709551616) (hm : many ≤ 64) :
    Calls Try.prog 48 #[.int .u64 (u : Int), .int .i64 (many : Int), .func (Fn.func 49) #[.pointer (some ⟨b, 0, none⟩)] #[]] w (PutB b (xs ++ bitsOf u many) w) := by
  have HW := Lib.hid h
  clear h
  go_enter Try.func48, Try.ntmps48
  go_wp2
  go_loopw [6] (fun i wr => ∃ j : Nat, j ≤ many ∧ i = .int .i64 ((many : Int) - 1 - j) ∧ PutB b (xs ++ bitsOf (u / 2 ^ (many - j)) j) w (.returned (.tuple #[])) wr) (fun i _ => (intOf i + 1).toNat)
  case atStart => exact ⟨0, Nat.zero_le _, by simp, rfl, by simpa [bitsOf] using HW.out, gb_refl _ _⟩
  case round =>
    obtain ⟨j, hj, rfl, hp⟩ := hrel
    by_cases hlt : j < many
    · go_wp2_with fail
      rw [and_bit u _ hu]
      refine (putBit_any b _ _ wr hp.2.1 (by rw [List.length_append, bitsOf_length]; omega)).mono ?_
      rintro e w' ⟨rfl, hw', hg⟩
      go_wp2
      go_roundw
      case rel =>
        refine ⟨j + 1, by omega, by go_num, rfl, ?_, gb_trans hp.2.2 hg⟩
        rw [bitsOf_step u many j hlt, ← List.append_assoc, show many - (j + 1) = many - 1 - j from by omega]
        exact hw'
      case measure => simp [intOf]; omega
    · go_wp2
      go_end0
      obtain rfl : j = many := by omega
      simpa using hp

set_option maxHeartbeats 400000 in
theorem put_nil (u many : Int) (w : World) :
    Calls Try.prog 32 #[.pointer none, .int .u64 u, .int .i64 many] w fun e w' => e = .returned (.int .i64 11) ∧ w = w' := by
  go_enter Try.func32, Try.ntmps32
  go_wp2
  go_ret
  exact ⟨rfl, rfl⟩

/-- A number finds room in so many bits. -/
def fits (u : Nat) (many : Int) : Bool := decide (0 ≤ many ∧ many ≤ 64 ∧ u < 2 ^ many.toNat)

set_option maxHeartbeats 400000 in
theorem put_bad (b : Nat) (u : Nat) (many : Int) (w : World) (_hu : u < 18446744073709551616) (hf : fits u many = false) :
    Calls Try.prog 32 #[.pointer (some ⟨b, 0, none⟩), .int .u64 (u : Int), .int .i64 many] w fun e w' => e = .returned (.int .i64 1) ∧ w = w' := by
  by_cases hr : right many = true
  · have h1 : 0 ≤ many ∧ many ≤ 64 := by simpa [right] using hr
    obtain ⟨n, rfl⟩ := Int.eq_ofNat_of_zero_le h1.1
    have hn : n ≤ 64 := by omega
    have h2 : 2 ^ n ≤ u := by
      simp [fits] at hf
      exact hf (by omega)
    have h3 : (((u : Int) / 2 ^ n) != 0) = true := by
      rw [bne_iff_ne]
      have : 1 ≤ u / 2 ^ n := (Nat.le_div_iff_mul_le (Nat.two_pow_pos n)).2 (by omega)
      have e : ((u : Int) / 2 ^ n) = ((u / 2 ^ n : Nat) : Int) := by simp
      rw [e]; omega
    clear hf h1 h2
    go_enter Try.func32, Try.ntmps32
    go_wp2_with fail
    refine (right_any _ _).mono ?_
    rintro e w' ⟨rfl, rfl⟩
    rw [hr]
    go_wp2
    go_ret
    exact ⟨rfl, rfl⟩
  · have hr' : right many = false := by simpa using hr
    clear hr hf
    go_enter Try.func32, Try.ntmps32
    go_wp2_with fail
    refine (right_any _ _).mono ?_
    rintro e w' ⟨rfl, rfl⟩
    rw [hr']
    go_wp2
    go_ret
    exact ⟨rfl, rfl⟩

def PutN (b : Nat) (xs : List Bool) (w : World) (e : Ending) (w' : World) : Prop := e = .returned (.int .i64 0) ∧ WrAt w' b xs ∧ w.grownBy w' (some b)

set_option maxHeartbeats 400000 in
theorem put_ok (b : Nat) (xs : List Bool) (u n : Nat) (w : World) (hw : WrAt w b xs) (hl : xs.length + n < 1099511627776) (hu : u < 18446744073709551616) (hn : n ≤ 64) (hf : u < 2 ^ n) :
    Calls Try.prog 32 #[.pointer (some ⟨b, 0, none⟩), .int .u64 (u : Int), .int .i64 (n : Int)] w (PutN b (xs ++ bitsOf u n) w) := by
  have hr : right (n : Int) = true := by simp [right]; omega
  have h3 : (((u : Int) / 2 ^ n) != 0) = false := by
    have e : ((u : Int) / 2 ^ n) = ((u / 2 ^ n : Nat) : Int) := by simp
    rw [e, Nat.div_eq_of_lt hf]; rfl
  have HW := Lib.hid hw
  clear hw hf
  have hmf : ∀ (fn : Fn) (first cap : Array Value) (w : World), (Instr.makeFunc fn first cap).run Try.prog w = .ok (.func fn first cap) w := fun _ _ _ _ => rfl
  go_enter Try.func32, Try.ntmps32
  go_wp2_with fail
  refine (right_any _ _).mono ?_
  rintro e w' ⟨rfl, rfl⟩
  rw [hr]
  go_wp2_with fail
  refine (spread_any b xs u n _ HW.out hl hu hn).mono ?_
  rintro e w' ⟨rfl, hw', hg⟩
  go_wp2
  go_ret
  exact ⟨rfl, hw', hg⟩

set_option maxHeartbeats 400000 in
theorem len_nil (w : World) :
    Calls Try.prog 17 #[.pointer none] w fun e w' => e = .returned (.int .i64 0) ∧ w = w' := by
  go_enter Try.func17, Try.ntmps17
  go_wp2
  go_ret
  exact ⟨rfl, rfl⟩

set_option maxHeartbeats 400000 in
theorem len_any (b : Nat) (xs : List Bool) (w : World) (hw : WrAt w b xs) :
    Calls Try.prog 17 #[.pointer (some ⟨b, 0, none⟩)] w fun e w' => e = .returned (.int .i64 (xs.length : Int)) ∧ w = w' := by
  obtain ⟨p, bl, op, hx, ho, hb, hch⟩ := hw
  have hc2 : w.cell? ⟨b, 2, none⟩ = some (.int .i64 (xs.length : Nat)) := by rw [cell_of hb]; rfl
  clear hx ho hb hch
  go_enter Try.func17, Try.ntmps17
  go_wp2
  go_ret
  exact ⟨rfl, rfl⟩

end Go.Proofs.Ytoanifeffegkiaa
