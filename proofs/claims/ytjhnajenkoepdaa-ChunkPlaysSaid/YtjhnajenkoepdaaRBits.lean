/-
  Contract of the document's own answer for layer 1: Bits: a number's bits one by one. Condition: 0 to 64 bits.
-/
import Derived.Test.YtjhnajenkoepdaaBase
import Derived.Test.YtjhnajenkoepdaaMath
import Derived.Lib.BufferWrite
namespace Go.Proofs.Ytjhnajenkoepdaa
open Go.RowKit
set_option linter.unusedVariables false
set_option linter.unusedSimpArgs false

theorem info_bool : (Try.prog.info? 4).map (fun i => (i.zero, i.size, i.bytes)) = some (some (.bool false), 1, 1) := by kernel_rfl
def bv (l : List Bool) : List Value := l.map Value.bool
theorem bv_length (l : List Bool) : (bv l).length = l.length := by simp [bv]
theorem bv_append (a b : List Bool) : bv (a ++ b) = bv a ++ bv b := by simp [bv]
theorem int_odd (n : Nat) : (((n : Int) % 2) == 1) = (n % 2 == 1) := by
  rcases (show n % 2 = 0 ∨ n % 2 = 1 by omega) with h | h
  · have : (n : Int) % 2 = 0 := by omega
    rw [this, h]; rfl
  · have : (n : Int) % 2 = 1 := by omega
    rw [this, h]; rfl

def BitsP (l : List Bool) (w : World) (e : Ending) (w' : World) : Prop := ∃ v, e = .returned v ∧ w'.ownsRow w.heap.size 4 1 v l.length (bv l) ∧ Below w.heap.size w w'

set_option maxRecDepth 100000 in
set_option maxHeartbeats 1000000 in
theorem rbits_any (u n : Nat) (w : World) (hu : u < 18446744073709551616) (hn : n ≤ 64) :
    Calls Try.prog 54 #[.int .u64 (u : Int), .int .i64 (n : Int)] w (BitsP (bitsOf u n) w) := by
  go_enter Try.func54, Try.ntmps54
  go_wp2
  go_loopw [5, 6] (fun v i wr => ∃ j : Nat, j ≤ n ∧ i = .int .i64 (j : Int) ∧ wr.ownsRow w.heap.size 4 1 v j (bv (bitsOf (u / 2 ^ (n - j)) j)) ∧ Below w.heap.size w wr) (fun _ i _ => n - (intOf i).toNat)
  case atStart => exact ⟨0, Nat.zero_le _, rfl, World.ownsRow_nil _ _ _ _, Below.refl _ _⟩
  case round =>
    obtain ⟨j, hj, rfl, hown, B2⟩ := hrel
    by_cases hjn : j < n
    · go_wp2_with fail
      go_loop [7, 8] (fun m k => ∃ q : Nat, j ≤ q ∧ q ≤ n - 1 ∧ k = .int .i64 (q : Int) ∧ m = .int .u64 ((u / 2 ^ (q - j) : Nat) : Int)) (fun _ k => n - (intOf k).toNat)
      case atStart => exact ⟨j, Nat.le_refl _, by omega, rfl, by simp⟩
      case round =>
        obtain ⟨q, hq1, hq2, rfl, rfl⟩ := hrel
        have hd : u / 2 ^ (q - j) < 18446744073709551616 := Nat.lt_of_le_of_lt (Nat.div_le_self _ _) hu
        by_cases hqn : q < n - 1
        · have HQ := Lib.hid (show u / 2 ^ (q - j) / 2 = u / 2 ^ (q + 1 - j) from by rw [Nat.div_div_eq_div_mul, ← Nat.pow_succ, show (q - j).succ = q + 1 - j from by omega])
          generalize u / 2 ^ (q - j) = m at *
          go_wp2
          refine ⟨⟨q + 1, by omega, by omega, by go_num, ?_⟩, by simp [intOf]; omega⟩
          rw [← HQ.out]; simp
        · obtain rfl : q = n - 1 := by omega
          have HST := Lib.hid (bitsOf_step u n j hjn)
          rw [show n - (j + 1) = n - 1 - j from by omega] at HST
          obtain ⟨m, hm⟩ : ∃ m, m = u / 2 ^ (n - 1 - j) := ⟨_, rfl⟩
          rw [← hm] at hd HST ⊢
          have HM := Lib.hid hm
          clear hm
          obtain ⟨x, hx⟩ : ∃ x, (((m : Int) % 2) == 1) = x := ⟨_, rfl⟩
          have HX := Lib.hid (show (m % 2 == 1) = x from by rw [← int_odd]; exact hx)
          obtain ⟨i0, hi, hz0, hz1, hz2⟩ := info_parts info_bool
          have s2 := B2.size
          go_wp2_with (at_builtin; refine wpList_append_own _ rfl _ _ 72 rfl w.heap.size 4 i0 _ 1 1 Try.underlying72 hi hz0 hz1 hz2 rfl (by decide) _ _ _ rfl (hown.alloc _) ⟨wr.heap.size, 0, none⟩ 1 1 [.bool x] rfl rfl ?c1 ?c2 ?c3 ?c4 ?c5 ?_)
          case c2 => rfl
          case c3 => unfold maxLen; omega
          case c4 => omega
          case c5 => omega
          intro v' W5 hown5 g5 _
          have B5 := (B2.alloc s2 (.cells #[.bool x] 4)).grown g5 (by simp; omega) (fun k hk => (hown.lt k hk).1)
          clear hown g5 hi hz0 hz1 hz2 hx
          go_wp2
          go_roundw
          case rel =>
            refine ⟨j + 1, by omega, by go_num, ?_, B5⟩
            rw [show n - (j + 1) = n - 1 - j from by omega, ← HM.out, HST.out, HX.out, bv_append]
            exact hown5
          case measure => simp [intOf]; omega
    · obtain rfl : j = n := by omega
      go_wp2
      go_ret
      refine ⟨_, rfl, ?_, B2⟩
      rw [bitsOf_length]
      simpa using hown

/-- A slice of bools that lies in memory. -/
def BoolsAt (w : World) (a : Option Addr) (len : Nat) (xs : List Bool) : Prop :=
  xs.length = len ∧ (len = 0 ∨ ∃ b off, a = some ⟨b, off, none⟩ ∧ b < w.heap.size ∧ ∀ i (h : i < xs.length), w.cell? ⟨b, off + i, none⟩ = some (.bool xs[i]))

theorem BoolsAt.keep {w w' : World} {a : Option Addr} {len : Nat} {xs : List Bool} (h : BoolsAt w a len xs) (hb : Below w.heap.size w w') : BoolsAt w' a len xs := by
  refine ⟨h.1, ?_⟩
  rcases h.2 with h0 | ⟨b, off, rfl, hlt, hc⟩
  · exact .inl h0
  · exact .inr ⟨b, off, rfl, Nat.lt_of_lt_of_le hlt hb.size, fun i hi => by rw [hb.cell hlt]; exact hc i hi⟩

/-- A row of the call's own, as a slice of bools. -/
theorem owns_bools {W : World} {base : Nat} {v : Value} {xs : List Bool} (hown : W.ownsRow base 4 1 v xs.length (bv xs)) : ∃ ad cp, v = .slice ad xs.length cp ∧ xs.length ≤ cp ∧ BoolsAt W ad xs.length xs ∧ (∀ x, ad = some x → x.off = 0) := by
  rcases hown.2 with ⟨rfl, h0⟩ | ⟨g, cp, cur, rfl, _, hgc, hl, _, hsz, htk⟩
  · rw [h0]; exact ⟨none, 0, rfl, Nat.le_refl _, ⟨h0, .inl rfl⟩, by simp⟩
  · refine ⟨_, cp, rfl, hl, ⟨rfl, .inr ⟨g, 0, rfl, heap_lt hgc, fun i hi => ?_⟩⟩, by simp⟩
    have h1 : (bv xs)[i]? = some (.bool xs[i]) := by simp [bv, List.getElem?_eq_getElem hi]
    rw [← htk, List.getElem?_take, if_pos (by omega), Array.getElem?_toList] at h1
    rw [cell_of hgc, Nat.zero_add]; exact h1

theorem take_snoc0 (xs : List Bool) (j : Nat) (h : j < xs.length) : xs.take (j + 1) = xs.take j ++ [xs[j]] := List.take_succ_eq_append_getElem h

theorem owns_cells {W : World} {base : Nat} {v : Value} {e : TypeId} {n : Nat} {xs : List Value} (hown : W.ownsRow base e 1 v n xs) (hn : 0 < n) :
    ∃ g cp, v = .slice (some ⟨g, 0, none⟩) n cp ∧ (∀ j u, xs[j]? = some u → W.cell? ((⟨g, 0, none⟩ : Addr).add j) = some u) ∧ base ≤ g := by
  rcases hown.2 with ⟨_, h0⟩ | ⟨g, cp, cur, rfl, hb, hgc, _, _, hsz, htk⟩
  · omega
  · refine ⟨g, cp, rfl, fun j u hj => ?_, hb⟩
    rw [← htk] at hj
    exact Lib.cells_of_row hgc _ j u hj

end Go.Proofs.Ytjhnajenkoepdaa
