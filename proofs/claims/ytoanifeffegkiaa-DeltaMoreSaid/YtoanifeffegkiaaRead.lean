/-
  Contracts of the functions of package bits that read: isNone, Left, Seek, getBit, gather, Get, Read.
  A Reader of Read's gives the bits of the text, from where it stands; one that is nil, or of zeros, gives ErrNil.
  Condition (Read): the text has at most 2^47 bytes.
-/
import Derived.Test.YtoanifeffegkiaaClone
import Derived.RegionTactic
import Derived.ChangeAlike
import Derived.Deep.QuietTactic
import Derived.BigQuiet
namespace Go.Proofs.Ytoanifeffegkiaa
open Go.RowKit
set_option linter.unusedVariables false

set_option maxHeartbeats 400000 in
theorem none_nil (w : World) :
    Calls Try.prog 45 #[.pointer none] w fun e w' => e = .returned (.bool true) ∧ w = w' := by
  go_enter Try.func45, Try.ntmps45
  go_wp2
  go_ret
  exact ⟨rfl, rfl⟩

set_option maxHeartbeats 400000 in
theorem none_cell (b : Nat) (g : Bool) (w : World) (hc : w.cell? ⟨b, 0, none⟩ = some (.bool g)) :
    Calls Try.prog 45 #[.pointer (some ⟨b, 0, none⟩)] w fun e w' => e = .returned (.bool (!g)) ∧ w = w' := by
  go_enter Try.func45, Try.ntmps45
  go_wp2
  go_ret
  exact ⟨rfl, rfl⟩

/-- What a call of a Reader that is nil, or of zeros, has to know. -/
def NoRd (w : World) (v : Value) : Prop := v = .pointer none ∨ ∃ b, v = .pointer (some ⟨b, 0, none⟩) ∧ w.cell? ⟨b, 0, none⟩ = some (.bool false)

theorem none_any (w : World) (v : Value) (h : NoRd w v) :
    Calls Try.prog 45 #[v] w fun e w' => e = .returned (.bool true) ∧ w = w' := by
  rcases h with rfl | ⟨b, rfl, hc⟩
  · exact none_nil w
  · exact none_cell b false w hc

set_option maxHeartbeats 400000 in
theorem left_no (w : World) (v : Value) (h : NoRd w v) :
    Calls Try.prog 27 #[v] w fun e w' => e = .returned (.int .i64 0) ∧ w = w' := by
  go_enter Try.func27, Try.ntmps27
  go_wp2_with fail
  refine (none_any _ _ h).mono ?_
  rintro e w' ⟨rfl, rfl⟩
  go_wp2
  go_ret
  exact ⟨rfl, rfl⟩

set_option maxHeartbeats 400000 in
theorem seek_no (w : World) (v : Value) (n : Int) (h : NoRd w v) :
    Calls Try.prog 55 #[v, .int .i64 n] w fun e w' => e = .returned (.int .i64 11) ∧ w = w' := by
  go_enter Try.func55, Try.ntmps55
  go_wp2_with fail
  refine (none_any _ _ h).mono ?_
  rintro e w' ⟨rfl, rfl⟩
  go_wp2
  go_ret
  exact ⟨rfl, rfl⟩

set_option maxHeartbeats 400000 in
theorem get_no (w : World) (v : Value) (n : Int) (h : NoRd w v) :
    Calls Try.prog 46 #[v, .int .i64 n] w fun e w' => e = .returned (.tuple #[.int .u64 0, .int .i64 11]) ∧ w = w' := by
  go_enter Try.func46, Try.ntmps46
  go_wp2_with fail
  refine (none_any _ _ h).mono ?_
  rintro e w' ⟨rfl, rfl⟩
  go_wp2
  go_ret2
  exact ⟨rfl, rfl⟩

/-- Draws alone. -/
def Drew (w w' : World) : Prop := ∃ n, w' = w.drewN n
theorem Drew.gb {w w' : World} (h : Drew w w') (row : Option Nat) : w.grownBy w' row := by
  obtain ⟨n, rfl⟩ := h
  exact ⟨rfl, rfl, rfl, Nat.le_refl _, fun _ _ _ => rfl⟩

set_option maxHeartbeats 400000 in
theorem left_any (b : Nat) (bs : List Bool) (p : Nat) (w : World) (h : RdAt w b bs p) :
    Calls Try.prog 27 #[.pointer (some ⟨b, 0, none⟩)] w fun e w' => e = .returned (.int .i64 ((bs.length : Int) - p)) ∧ Drew w w' := by
  obtain ⟨t, hb, hp, hle, ht, hbs⟩ := h
  have hc0 : w.cell? ⟨b, 0, none⟩ = some (.bool true) := by rw [cell_of hb]; rfl
  have hc2 : w.cell? ⟨b, 2, none⟩ = some (.int .i64 (bs.length : Nat)) := by rw [cell_of hb]; rfl
  have hc3 : w.cell? ⟨b, 3, none⟩ = some (.int .i64 (p : Nat)) := by rw [cell_of hb]; rfl
  have hlen : bs.length < 9223372036854775807 := by omega
  clear hbs hb ht hle
  go_enter Try.func27, Try.ntmps27
  go_wp2_with fail
  refine (none_cell b true _ hc0).mono ?_
  rintro e w' ⟨rfl, rfl⟩
  go_wp2
  go_quiet (fail)
  go_wp2
  go_ret
  exact ⟨rfl, _, rfl⟩

def SeekP (b : Nat) (bs : List Bool) (p : Nat) (w : World) (e : Ending) (w' : World) : Prop := e = .returned (.int .i64 0) ∧ RdAt w' b bs p ∧ w.grownBy w' (some b)

set_option maxHeartbeats 400000 in
theorem seek_ok (b : Nat) (bs : List Bool) (p n : Nat) (w : World) (h : RdAt w b bs p) (hn : n ≤ bs.length) :
    Calls Try.prog 55 #[.pointer (some ⟨b, 0, none⟩), .int .i64 (n : Int)] w (SeekP b bs n w) := by
  obtain ⟨t, hb, hp, hle, ht, hbs⟩ := h
  have hc0 : w.cell? ⟨b, 0, none⟩ = some (.bool true) := by rw [cell_of hb]; rfl
  have hc2 : w.cell? ⟨b, 2, none⟩ = some (.int .i64 (bs.length : Nat)) := by rw [cell_of hb]; rfl
  have hc3 : w.cell? ⟨b, 3, none⟩ = some (.int .i64 (p : Nat)) := by rw [cell_of hb]; rfl
  have hf3 : w.frozen? ⟨b, 3, none⟩ = false := frozen_of hb
  have HBS := Lib.hid hbs
  have HB := Lib.hid hb
  clear hbs hb
  go_enter Try.func55, Try.ntmps55
  go_wp2_with fail
  refine (none_cell b true _ hc0).mono ?_
  rintro e w' ⟨rfl, rfl⟩
  go_wp2
  go_ret
  exact ⟨rfl, ⟨t, (heap_set HB.out).trans (by simp), hn, hle, ht, HBS.out⟩, gb_set (gb_refl _ _) _ _⟩

set_option maxHeartbeats 400000 in
theorem seek_bad (b : Nat) (bs : List Bool) (p : Nat) (n : Int) (w : World) (h : RdAt w b bs p) (hn : n < 0 ∨ (bs.length : Int) < n) :
    Calls Try.prog 55 #[.pointer (some ⟨b, 0, none⟩), .int .i64 n] w fun e w' => e = .returned (.int .i64 1) ∧ w = w' := by
  obtain ⟨t, hb, hp, hle, ht, hbs⟩ := h
  have hc0 : w.cell? ⟨b, 0, none⟩ = some (.bool true) := by rw [cell_of hb]; rfl
  have hc2 : w.cell? ⟨b, 2, none⟩ = some (.int .i64 (bs.length : Nat)) := by rw [cell_of hb]; rfl
  clear hbs hb
  by_cases h0 : n < 0
  · clear hn
    go_enter Try.func55, Try.ntmps55
    go_wp2_with fail
    refine (none_cell b true _ hc0).mono ?_
    rintro e w' ⟨rfl, rfl⟩
    go_wp2
    go_ret
    exact ⟨rfl, rfl⟩
  · have h1 : (bs.length : Int) < n := by omega
    clear hn
    go_enter Try.func55, Try.ntmps55
    go_wp2_with fail
    refine (none_cell b true _ hc0).mono ?_
    rintro e w' ⟨rfl, rfl⟩
    go_wp2
    go_ret
    exact ⟨rfl, rfl⟩

theorem bitsL_get {t : List UInt8} {n : Nat} {bs : List Bool} (h : bs = bitsL t n) (p : Nat) (hp : p < bs.length) : bs[p] = bitAt t p := by
  subst h; simp [bitsL]
theorem bit_val (t : ByteArray) (p : Nat) (hi : p / 8 < t.size) : IntKind.u64.wrap (bits .and .u8 ((t[p / 8].toNat : Int) / 2 ^ (7 - p % 8)) 1) = ((bitAt t.data.toList p).toNat : Int) := by
  have hb := t[p / 8].toNat_lt
  have hd : t[p / 8].toNat / 2 ^ (7 - p % 8) < 256 := Nat.lt_of_le_of_lt (Nat.div_le_self _ _) (by omega)
  have h1 := u8_and_nat (t[p / 8].toNat / 2 ^ (7 - p % 8)) 1 hd (by omega)
  rw [nat_mask1] at h1
  have e : ((t[p / 8].toNat : Int) / 2 ^ (7 - p % 8)) = ((t[p / 8].toNat / 2 ^ (7 - p % 8) : Nat) : Int) := by simp
  have e2 : t.data.toList.getD (p / 8) 0 = t[p / 8] := by
    rw [List.getD_eq_getElem?_getD, Array.getElem?_toList, Array.getElem?_eq_getElem (show p / 8 < t.data.size from hi)]; rfl
  rw [e, show ((1 : Int)) = ((1 : Nat) : Int) from rfl, h1, bitAt, e2, toNat_odd, IntKind.wrap_u64]
  omega

def BitP (b : Nat) (bs : List Bool) (p : Nat) (x : Bool) (w : World) (e : Ending) (w' : World) : Prop := e = .returned (.int .u64 (x.toNat : Int)) ∧ RdAt w' b bs p ∧ w.grownBy w' (some b)

set_option maxHeartbeats 400000 in
theorem getBit_any (b : Nat) (bs : List Bool) (p : Nat) (w : World) (h : RdAt w b bs p) (hlt : p < bs.length) :
    Calls Try.prog 57 #[.pointer (some ⟨b, 0, none⟩)] w (BitP b bs (p + 1) bs[p] w) := by
  obtain ⟨t, hb, hp, hle, ht, hbs⟩ := h
  have hc1 : w.cell? ⟨b, 1, none⟩ = some (.string t) := by rw [cell_of hb]; rfl
  have hc3 : w.cell? ⟨b, 3, none⟩ = some (.int .i64 (p : Nat)) := by rw [cell_of hb]; rfl
  have hf3 : w.frozen? ⟨b, 3, none⟩ = false := frozen_of hb
  have HBS := Lib.hid hbs
  have HB := Lib.hid hb
  clear hbs hb
  have hi : p / 8 < t.size := by omega
  have b5 : (p : Int) / 8 < (t.size : Int) := by omega
  have e1 : IntKind.i64.wrap ((p : Int) / 8) = (p : Int) / 8 := IntWalk.i64_in _ ⟨by omega, by omega⟩
  have e2 : IntKind.i64.wrap (7 - (p : Int) % 8) = 7 - (p : Int) % 8 := IntWalk.i64_in _ ⟨by omega, by omega⟩
  have b1 : 0 ≤ (p : Int) / 8 := by omega
  have b2 : ((p : Int) / 8).toNat = p / 8 := by omega
  have b3 : 0 ≤ 7 - (p : Int) % 8 := by omega
  have b4 : (7 - (p : Int) % 8).toNat = 7 - p % 8 := by omega
  go_enter Try.func57, Try.ntmps57
  go_wp2
  go_quiet (fail)
  go_wp2
  go_ret
  have hx : bs[p] = bitAt t.data.toList p := bitsL_get HBS.out p hlt
  refine ⟨ret_int ?_, ⟨t, (heap_set HB.out).trans (by simp), hlt, hle, ht, HBS.out⟩, gb_set (Drew.gb ⟨_, rfl⟩ _) _ _⟩
  rw [hx]
  exact bit_val t p hi

def GatherP (b : Nat) (bs : List Bool) (p n : Nat) (w : World) (e : Ending) (w' : World) : Prop := e = .returned (.int .u64 (num ((bs.drop p).take n) : Int)) ∧ RdAt w' b bs (p + n) ∧ w.grownBy w' (some b)

theorem take_snoc (bs : List Bool) (p j : Nat) (h : p + j < bs.length) : (bs.drop p).take (j + 1) = (bs.drop p).take j ++ [bs[p + j]] := by
  rw [List.take_succ_eq_append_getElem (by simp; omega)]
  simp

theorem or_bit' (o : Nat) (x : Bool) (h : o < 9223372036854775808) : bits .or .u64 ((o : Int) * 2) (x.toNat : Int) = ((2 * o + x.toNat : Nat) : Int) := by
  have hx : x.toNat < 2 ^ 1 := by cases x <;> simp
  have := u64_or_nat (2 * o) x.toNat (by omega) (by omega)
  rw [show ((o : Int) * 2) = ((2 * o : Nat) : Int) from by omega, this, nat_join 1 (2 * o) x.toNat (by omega) hx]

set_option maxHeartbeats 400000 in
theorem gather_any (b : Nat) (bs : List Bool) (p n : Nat) (w : World) (h : RdAt w b bs p) (hn : n ≤ 64) (hlt : p + n ≤ bs.length) :
    Calls Try.prog 56 #[.int .i64 (n : Int), .func (Fn.func 57) #[.pointer (some ⟨b, 0, none⟩)] #[]] w (GatherP b bs p n w) := by
  have HW := Lib.hid h
  clear h
  go_enter Try.func56, Try.ntmps56
  go_wp2
  go_loopw [5, 7] (fun u i wr => ∃ j : Nat, j ≤ n ∧ i = .int .i64 (j : Int) ∧ u = .int .u64 (num ((bs.drop p).take j) : Int) ∧ RdAt wr b bs (p + j) ∧ w.grownBy wr (some b)) (fun _ i _ => n - (intOf i).toNat)
  case atStart => exact ⟨0, Nat.zero_le _, rfl, rfl, HW.out, gb_refl _ _⟩
  case round =>
    obtain ⟨j, hj, rfl, rfl, hr, hg⟩ := hrel
    by_cases hjn : j < n
    · have hlj : p + j < bs.length := by omega
      have hnum : num ((bs.drop p).take j) < 9223372036854775808 := by
        have h1 := num_lt ((bs.drop p).take j)
        have h2 : 2 ^ ((bs.drop p).take j).length ≤ 2 ^ 63 := Nat.pow_le_pow_right (by omega) (by have := List.length_take_le j (bs.drop p); omega)
        have h3 : (2 : Nat) ^ 63 = 9223372036854775808 := by decide
        omega
      have HN := Lib.hid (take_snoc bs p j hlj)
      have HO := Lib.hid (or_bit' (num ((bs.drop p).take j)) bs[p + j] hnum)
      obtain ⟨u, hu⟩ : ∃ u, u = num ((bs.drop p).take j) := ⟨_, rfl⟩
      rw [← hu] at HO hnum ⊢
      have HU := Lib.hid hu
      clear hu
      go_wp2_with fail
      refine (getBit_any b bs (p + j) wr hr hlj).mono ?_
      rintro e w' ⟨rfl, hr', hg'⟩
      go_wp2
      go_roundw
      case rel =>
        refine ⟨j + 1, by omega, by go_num, ?_, hr', gb_trans hg hg'⟩
        rw [HO.out, HN.out, num_snoc, ← HU.out]
      case measure => simp [intOf]; omega
    · obtain rfl : j = n := by omega
      go_wp2
      go_ret
      exact ⟨rfl, hr, hg⟩

def GetP (b : Nat) (bs : List Bool) (p n : Nat) (w : World) (e : Ending) (w' : World) : Prop := e = .returned (.tuple #[.int .u64 (num ((bs.drop p).take n) : Int), .int .i64 0]) ∧ RdAt w' b bs (p + n) ∧ w.grownBy w' (some b)

theorem RdAt.cell0 {w : World} {b p : Nat} {bs : List Bool} (h : RdAt w b bs p) : w.cell? ⟨b, 0, none⟩ = some (.bool true) := by
  obtain ⟨t, hb, _⟩ := h; rw [cell_of hb]; rfl
theorem RdAt.le {w : World} {b p : Nat} {bs : List Bool} (h : RdAt w b bs p) : p ≤ bs.length ∧ bs.length ≤ 1125899906842624 := by
  obtain ⟨t, hb, h1, h2, h3, _⟩ := h; omega

set_option maxHeartbeats 400000 in
theorem get_ok (b : Nat) (bs : List Bool) (p n : Nat) (w : World) (h : RdAt w b bs p) (hn : n ≤ 64) (hlt : p + n ≤ bs.length) :
    Calls Try.prog 46 #[.pointer (some ⟨b, 0, none⟩), .int .i64 (n : Int)] w (GetP b bs p n w) := by
  have hc0 := h.cell0
  have hle := h.le
  have HW := Lib.hid h
  have hr : right (n : Int) = true := by simp [right]; omega
  have hl : decide ((bs.length : Int) - (p : Int) < (n : Int)) = false := by simp; omega
  have hmf : ∀ (fn : Fn) (first cap : Array Value) (w : World), (Instr.makeFunc fn first cap).run Try.prog w = .ok (.func fn first cap) w := fun _ _ _ _ => rfl
  clear h
  go_enter Try.func46, Try.ntmps46
  go_wp2_with fail
  refine (none_cell b true _ hc0).mono ?_
  rintro e w' ⟨rfl, rfl⟩
  go_wp2_with fail
  refine (right_any _ _).mono ?_
  rintro e w' ⟨rfl, rfl⟩
  rw [hr]
  go_wp2_with fail
  refine (left_any b bs p _ HW.out).mono ?_
  rintro e w1 ⟨rfl, hd⟩
  have hr1 := HW.out.keep (hd.gb none) (by simp)
  have HD := Lib.hid hd
  have HR := Lib.hid hr1
  clear hd hr1
  go_wp2_with fail
  refine (gather_any b bs p n _ HR.out hn hlt).mono ?_
  rintro e w' ⟨rfl, hr', hg'⟩
  go_wp2
  go_ret2
  exact ⟨rfl, hr', gb_trans (HD.out.gb _) hg'⟩

set_option maxHeartbeats 400000 in
theorem get_arg (b : Nat) (bs : List Bool) (p : Nat) (n : Int) (w : World) (h : RdAt w b bs p) (hn : n < 0 ∨ 64 < n) :
    Calls Try.prog 46 #[.pointer (some ⟨b, 0, none⟩), .int .i64 n] w fun e w' => e = .returned (.tuple #[.int .u64 0, .int .i64 1]) ∧ w = w' := by
  have hc0 := h.cell0
  have hr : right n = false := by simp [right]; omega
  clear h hn
  go_enter Try.func46, Try.ntmps46
  go_wp2_with fail
  refine (none_cell b true _ hc0).mono ?_
  rintro e w' ⟨rfl, rfl⟩
  go_wp2_with fail
  refine (right_any _ _).mono ?_
  rintro e w' ⟨rfl, rfl⟩
  rw [hr]
  go_wp2
  go_ret2
  exact ⟨rfl, rfl⟩

set_option maxHeartbeats 400000 in
theorem get_short (b : Nat) (bs : List Bool) (p n : Nat) (w : World) (h : RdAt w b bs p) (hn : n ≤ 64) (hlt : bs.length < p + n) :
    Calls Try.prog 46 #[.pointer (some ⟨b, 0, none⟩), .int .i64 (n : Int)] w fun e w' => e = .returned (.tuple #[.int .u64 0, .int .i64 3]) ∧ Drew w w' := by
  have hc0 := h.cell0
  have hle := h.le
  have HW := Lib.hid h
  have hr : right (n : Int) = true := by simp [right]; omega
  have hl : decide ((bs.length : Int) - (p : Int) < (n : Int)) = true := by simp; omega
  clear h
  go_enter Try.func46, Try.ntmps46
  go_wp2_with fail
  refine (none_cell b true _ hc0).mono ?_
  rintro e w' ⟨rfl, rfl⟩
  go_wp2_with fail
  refine (right_any _ _).mono ?_
  rintro e w' ⟨rfl, rfl⟩
  rw [hr]
  go_wp2_with fail
  refine (left_any b bs p _ HW.out).mono ?_
  rintro e w1 ⟨rfl, hd⟩
  go_wp2
  go_ret2
  exact ⟨rfl, hd⟩

set_option maxHeartbeats 400000 in
theorem read_bad (s : ByteArray) (n : Int) (w : World) (hs : s.size ≤ 140737488355328) (hn : n < 0 ∨ 8 * (s.size : Int) < n) :
    Calls Try.prog 21 #[.string s, .int .i64 n] w fun e w' => e = .returned (.tuple #[.pointer none, .int .i64 1]) ∧ w = w' := by
  by_cases h0 : n < 0
  · clear hn
    go_enter Try.func21, Try.ntmps21
    go_wp2
    go_ret2
    exact ⟨rfl, rfl⟩
  · have h1 : 8 * (s.size : Int) < n := by omega
    clear hn
    go_enter Try.func21, Try.ntmps21
    go_wp2
    go_ret2
    exact ⟨rfl, rfl⟩

def ReadP (bs : List Bool) (w : World) (e : Ending) (w' : World) : Prop := ∃ k, e = .returned (.tuple #[.pointer (some ⟨k, 0, none⟩), .int .i64 0]) ∧ RdAt w' k bs 0 ∧ w.heap.size ≤ k ∧ Below w.heap.size w w'

theorem bitsL_extract (s : ByteArray) (n : Nat) (hn : n ≤ 8 * s.size) : bitsL (s.extract 0 ((n + 7) / 8)).data.toList n = bitsL s.data.toList n := by
  apply List.ext_getElem
  · simp [bitsL]
  · intro i h1 h2
    rw [bitsL_length] at h1
    have e : (s.extract 0 ((n + 7) / 8)).data.toList.getD (i / 8) 0 = s.data.toList.getD (i / 8) 0 := by
      rw [Lib.extract_data]
      simp only [List.getD_eq_getElem?_getD, List.drop_zero, List.getElem?_take]
      rw [if_pos (by omega)]
    simp only [bitsL, List.getElem_map, List.getElem_range, bitAt, e]

set_option maxHeartbeats 400000 in
theorem read_ok (s : ByteArray) (n : Nat) (w : World) (hs : s.size ≤ 140737488355328) (hn : n ≤ 8 * s.size) :
    Calls Try.prog 21 #[.string s, .int .i64 (n : Int)] w (ReadP (bitsL s.data.toList n) w) := by
  have hn' : (n : Int) ≤ 8 * (s.size : Int) := by omega
  go_enter Try.func21, Try.ntmps21
  go_wp2_with fail
  refine (bytesOf_any _ _ (by omega) (by omega)).mono ?_
  rintro e w' ⟨rfl, rfl⟩
  go_wp2_with fail
  have hsz : (s.extract 0 ((n + 7) / 8)).size = (n + 7) / 8 := by rw [ByteArray.size_extract]; omega
  have HSZ := Lib.hid hsz
  have HEX := Lib.hid (bitsL_extract s n hn)
  clear hsz
  refine (clone_any _ _ (by have := HSZ.out; omega)).mono ?_
  rintro e w1 ⟨rfl, hb⟩
  have hsz1 := hb.size
  generalize s.extract 0 ((n + 7) / 8) = t at *
  go_wp2
  go_ret2
  refine ⟨_, rfl, ⟨t, ?_, Nat.zero_le _, ?_, ?_, ?_⟩, hsz1, hb.alloc hsz1 _⟩
  · rw [heap_new, bitsL_length]; rfl
  · rw [bitsL_length]; have := HSZ.out; omega
  · have := HSZ.out; omega
  · rw [bitsL_length]; exact HEX.out.symm

end Go.Proofs.Ytoanifeffegkiaa
