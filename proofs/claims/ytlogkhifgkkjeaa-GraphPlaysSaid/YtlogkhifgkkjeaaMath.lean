/-
  Plain facts on rows of bits as numbers and as bytes: no program in sight.
  num: the number that bits are, the first one the highest; bitsOf u k: the last k bits of u; packB: the bytes that have bits; bitAt: a bit of bytes.
-/
import Derived.Below
namespace Go.Proofs.Ytlogkhifgkkjeaa

def num (l : List Bool) : Nat := l.foldl (fun a b => 2 * a + b.toNat) 0

theorem foldl_num (l : List Bool) (a : Nat) : l.foldl (fun a b => 2 * a + b.toNat) a = a * 2 ^ l.length + num l := by
  induction l generalizing a with
  | nil => simp [num]
  | cons x xs ih =>
    simp only [num, List.foldl_cons, List.length_cons]
    rw [ih, ih]
    rw [Nat.pow_succ, Nat.add_mul]
    simp only [Nat.mul_zero, Nat.zero_add]
    rw [show 2 * a * 2 ^ xs.length = a * (2 ^ xs.length * 2) from by rw [Nat.mul_comm 2 a, Nat.mul_assoc, Nat.mul_comm 2]]
    omega

theorem num_nil : num [] = 0 := rfl
theorem num_append (a b : List Bool) : num (a ++ b) = num a * 2 ^ b.length + num b := by
  rw [num, List.foldl_append, foldl_num]; rfl
theorem num_snoc (a : List Bool) (x : Bool) : num (a ++ [x]) = 2 * num a + x.toNat := by
  rw [num_append]; simp [num]; omega
theorem snocInd {P : List Bool → Prop} (h0 : P []) (h1 : ∀ xs x, P xs → P (xs ++ [x])) (l : List Bool) : P l := by
  have : ∀ r : List Bool, P r.reverse := by
    intro r
    induction r with
    | nil => exact h0
    | cons x xs ih => rw [List.reverse_cons]; exact h1 _ _ ih
  have h := this l.reverse
  rwa [List.reverse_reverse] at h
theorem num_lt (l : List Bool) : num l < 2 ^ l.length := by
  induction l using snocInd with
  | h0 => simp [num]
  | h1 xs x ih =>
    rw [num_snoc, List.length_append, List.length_singleton, Nat.pow_succ]
    have : x.toNat ≤ 1 := by cases x <;> simp
    omega

def bitsOf (u : Nat) : Nat → List Bool
  | 0 => []
  | k + 1 => bitsOf (u / 2) k ++ [u % 2 == 1]

theorem bitsOf_length (u k : Nat) : (bitsOf u k).length = k := by
  induction k generalizing u with
  | zero => rfl
  | succ k ih => simp [bitsOf, ih]
theorem toNat_odd (u : Nat) : (u % 2 == 1).toNat = u % 2 := by
  have : u % 2 < 2 := Nat.mod_lt _ (by omega)
  rcases (show u % 2 = 0 ∨ u % 2 = 1 by omega) with h | h <;> simp [h]
theorem num_bitsOf (u k : Nat) : num (bitsOf u k) = u % 2 ^ k := by
  induction k generalizing u with
  | zero => simp [bitsOf, num, Nat.mod_one]
  | succ k ih =>
    rw [bitsOf, num_snoc, ih, toNat_odd, Nat.pow_succ, Nat.mul_comm (2 ^ k) 2, Nat.mod_mul]
    omega
theorem num_bitsOf_lt {u k : Nat} (h : u < 2 ^ k) : num (bitsOf u k) = u := by rw [num_bitsOf, Nat.mod_eq_of_lt h]
theorem bitsOf_num (l : List Bool) : bitsOf (num l) l.length = l := by
  induction l using snocInd with
  | h0 => rfl
  | h1 xs x ih =>
    rw [List.length_append, List.length_singleton, bitsOf, num_snoc]
    have h1 : (2 * num xs + x.toNat) / 2 = num xs := by cases x <;> simp <;> omega
    have h2 : ((2 * num xs + x.toNat) % 2 == 1) = x := by cases x <;> simp <;> omega
    rw [h1, h2, ih]
theorem num_inj {a b : List Bool} (hl : a.length = b.length) (h : num a = num b) : a = b := by
  rw [← bitsOf_num a, ← bitsOf_num b, hl, h]
/-- One bit more of the front of a number's bits. -/
theorem bitsOf_step (u k j : Nat) (h : j < k) : bitsOf (u / 2 ^ (k - (j + 1))) (j + 1) = bitsOf (u / 2 ^ (k - j)) j ++ [u / 2 ^ (k - (j + 1)) % 2 == 1] := by
  rw [bitsOf, Nat.div_div_eq_div_mul, ← Nat.pow_succ, show (k - (j + 1)).succ = k - j from by omega]

theorem bitsOf_append (u a b : Nat) : bitsOf u (a + b) = bitsOf (u / 2 ^ b) a ++ bitsOf u b := by
  apply num_inj
  · simp [bitsOf_length]
  · rw [num_append, num_bitsOf, num_bitsOf, num_bitsOf, bitsOf_length, Nat.add_comm a b, Nat.pow_add, Nat.mod_mul]
    rw [Nat.mul_comm]; omega

/-- Eight bits from place 8 i on, false behind the end. -/
def eight (l : List Bool) (i : Nat) : List Bool := (List.range 8).map fun j => l.getD (8 * i + j) false
theorem eight_length (l : List Bool) (i : Nat) : (eight l i).length = 8 := by simp [eight]
def byteAt (l : List Bool) (i : Nat) : Nat := num (eight l i)
theorem byteAt_lt (l : List Bool) (i : Nat) : byteAt l i < 256 := by
  have := num_lt (eight l i); rw [eight_length] at this; exact this
def packL (l : List Bool) : List UInt8 := (List.range ((l.length + 7) / 8)).map fun i => UInt8.ofNat (byteAt l i)
theorem packL_length (l : List Bool) : (packL l).length = (l.length + 7) / 8 := by simp [packL]
/-- Bit i of bytes. -/
def bitAt (s : List UInt8) (i : Nat) : Bool := (s.getD (i / 8) 0).toNat / 2 ^ (7 - i % 8) % 2 == 1
def bitsL (s : List UInt8) (many : Nat) : List Bool := (List.range many).map (bitAt s)
theorem bitsL_length (s : List UInt8) (many : Nat) : (bitsL s many).length = many := by simp [bitsL]

/-- Bit j of a number of bits. -/
theorem num_bit (l : List Bool) (n : Nat) (hl : l.length = n) (j : Nat) (h : j < n) : (num l / 2 ^ (n - 1 - j) % 2 == 1) = l.getD j false := by
  subst hl
  have e : l = (l.take j ++ [l[j]]) ++ l.drop (j + 1) := by simp
  have hn : num l = (2 * num (l.take j) + (l[j]).toNat) * 2 ^ (l.length - 1 - j) + num (l.drop (j + 1)) := by
    conv => lhs; rw [e]
    rw [num_append, num_snoc, List.length_drop, show l.length - (j + 1) = l.length - 1 - j from by omega]
  have hlt := num_lt (l.drop (j + 1))
  rw [List.length_drop, show l.length - (j + 1) = l.length - 1 - j from by omega] at hlt
  rw [hn, Nat.add_comm, Nat.add_mul_div_right _ _ (Nat.two_pow_pos _), Nat.div_eq_of_lt hlt, List.getD_eq_getElem?_getD, List.getElem?_eq_getElem h]
  cases l[j] <;> simp <;> omega

theorem bitAt_pack (l : List Bool) (i : Nat) (h : i < l.length) : bitAt (packL l) i = l[i] := by
  have h8 : i / 8 < (l.length + 7) / 8 := by omega
  have hb := byteAt_lt l (i / 8)
  have e : ((packL l).getD (i / 8) 0).toNat = byteAt l (i / 8) := by
    simp only [packL, List.getD_eq_getElem?_getD, List.getElem?_map, List.getElem?_range h8, Option.map_some, Option.getD_some]
    simp only [UInt8.toNat_ofNat']
    omega
  unfold bitAt
  rw [e]
  have := num_bit (eight l (i / 8)) 8 (eight_length _ _) (i % 8) (by omega)
  unfold byteAt
  rw [show 7 - i % 8 = 8 - 1 - i % 8 from by omega, this]
  rw [List.getD_eq_getElem?_getD, List.getElem?_eq_getElem (by rw [eight_length]; omega)]
  simp only [eight, List.getElem_map, List.getElem_range, Option.getD_some]
  rw [show 8 * (i / 8) + i % 8 = i from by omega, List.getD_eq_getElem?_getD, List.getElem?_eq_getElem h]
  rfl
theorem bitsL_pack (l : List Bool) : bitsL (packL l) l.length = l := by
  apply List.ext_getElem
  · simp [bitsL]
  · intro i h1 h2
    simp only [bitsL, List.getElem_map, List.getElem_range]
    exact bitAt_pack l i h2

theorem eight_bitsL (s : List UInt8) (i : Nat) (h : i < s.length) : eight (bitsL s (8 * s.length)) i = bitsOf (s.getD i 0).toNat 8 := by
  apply num_inj
  · rw [eight_length, bitsOf_length]
  · congr 1
    apply List.ext_getElem
    · rw [eight_length, bitsOf_length]
    · intro j h1 h2
      rw [eight_length] at h1
      have hn : num (bitsOf (s.getD i 0).toNat 8) = (s.getD i 0).toNat := num_bitsOf_lt (by have := (s.getD i 0).toNat_lt; omega)
      have := num_bit (bitsOf (s.getD i 0).toNat 8) 8 (bitsOf_length _ _) j h1
      rw [hn, List.getD_eq_getElem?_getD (l := bitsOf _ _), List.getElem?_eq_getElem h2, Option.getD_some] at this
      rw [← this]
      simp only [eight, List.getElem_map, List.getElem_range]
      rw [List.getD_eq_getElem?_getD, List.getElem?_eq_getElem (by rw [bitsL_length]; omega)]
      simp only [Option.getD_some, bitsL, List.getElem_map, List.getElem_range, bitAt]
      rw [show (8 * i + j) / 8 = i from by omega, show 7 - (8 * i + j) % 8 = 8 - 1 - j from by omega]

theorem pack_bitsL (s : List UInt8) : packL (bitsL s (8 * s.length)) = s := by
  apply List.ext_getElem
  · rw [packL_length, bitsL_length]; omega
  · intro i h1 h2
    simp only [packL, List.getElem_map, List.getElem_range]
    unfold byteAt
    rw [eight_bitsL s i h2, num_bitsOf_lt (by have := (s.getD i 0).toNat_lt; omega)]
    rw [List.getD_eq_getElem?_getD, List.getElem?_eq_getElem h2]
    simp

/-- Byte i of 64 bits' number. -/
theorem byte64 (l : List Bool) (hl : l.length = 64) (i : Nat) (hi : i < 8) : num l / 2 ^ (56 - 8 * i) % 256 = byteAt l i := by
  have e : l = (l.take (8 * i) ++ (l.drop (8 * i)).take 8) ++ l.drop (8 * i + 8) := by
    rw [List.append_assoc, ← List.drop_drop, List.take_append_drop, List.take_append_drop]
  have he : (l.drop (8 * i)).take 8 = eight l i := by
    apply List.ext_getElem
    · rw [eight_length]; simp; omega
    · intro j h1 h2
      rw [eight_length] at h2
      simp only [eight, List.getElem_map, List.getElem_range, List.getElem_take, List.getElem_drop]
      rw [List.getD_eq_getElem?_getD, List.getElem?_eq_getElem (by omega)]; rfl
  have hn : num l = (num (l.take (8 * i)) * 2 ^ 8 + byteAt l i) * 2 ^ (56 - 8 * i) + num (l.drop (8 * i + 8)) := by
    conv => lhs; rw [e]
    rw [num_append, num_append, List.length_drop, he, eight_length, hl, show 64 - (8 * i + 8) = 56 - 8 * i from by omega]; rfl
  have hlt := num_lt (l.drop (8 * i + 8))
  rw [List.length_drop, hl, show 64 - (8 * i + 8) = 56 - 8 * i from by omega] at hlt
  have hb := byteAt_lt l i
  rw [hn, Nat.add_comm, Nat.add_mul_div_right _ _ (Nat.two_pow_pos _), Nat.div_eq_of_lt hlt]
  omega

theorem num_pad (l : List Bool) (k : Nat) : num (l ++ List.replicate k false) = num l * 2 ^ k := by
  rw [num_append, List.length_replicate]
  have : num (List.replicate k false) = 0 := by
    induction k with
    | zero => rfl
    | succ k ih => rw [List.replicate_succ', num_snoc, ih]; rfl
  omega

theorem eight_shift (a b : List Bool) (k i : Nat) (ha : a.length = 8 * k) : eight (a ++ b) (k + i) = eight b i := by
  apply List.ext_getElem
  · simp [eight_length]
  · intro j h1 h2
    simp only [eight, List.getElem_map, List.getElem_range, List.getD_eq_getElem?_getD]
    rw [List.getElem?_append_right (by omega), show 8 * (k + i) + j - a.length = 8 * i + j from by omega]
theorem eight_left (a b : List Bool) (k i : Nat) (ha : a.length = 8 * k) (hi : i < k) : eight (a ++ b) i = eight a i := by
  apply List.ext_getElem
  · simp [eight_length]
  · intro j h1 h2
    rw [eight_length] at h1
    simp only [eight, List.getElem_map, List.getElem_range, List.getD_eq_getElem?_getD]
    rw [List.getElem?_append_left (by omega)]
theorem eight_pad (a : List Bool) (k i : Nat) : eight (a ++ List.replicate k false) i = eight a i := by
  apply List.ext_getElem
  · simp [eight_length]
  · intro j h1 h2
    simp only [eight, List.getElem_map, List.getElem_range, List.getD_eq_getElem?_getD]
    by_cases h : 8 * i + j < a.length
    · rw [List.getElem?_append_left h]
    · rw [List.getElem?_append_right (by omega), List.getElem?_eq_none (by omega : a.length ≤ 8 * i + j), List.getElem?_replicate]
      split <;> rfl
theorem byteAt_shift (a b : List Bool) (k i : Nat) (ha : a.length = 8 * k) : byteAt (a ++ b) (k + i) = byteAt b i := by rw [byteAt, eight_shift a b k i ha]; rfl
theorem byteAt_left (a b : List Bool) (k i : Nat) (ha : a.length = 8 * k) (hi : i < k) : byteAt (a ++ b) i = byteAt a i := by rw [byteAt, eight_left a b k i ha hi]; rfl
theorem byteAt_pad (a : List Bool) (k i : Nat) : byteAt (a ++ List.replicate k false) i = byteAt a i := by rw [byteAt, eight_pad]; rfl

end Go.Proofs.Ytlogkhifgkkjeaa
