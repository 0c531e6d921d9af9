/-
  Contract of sort.Search: of a test that begins to hold at place k, and leaves old memory alone, it tells k.
-/
import Derived.Test.YtpbhdlhbcfkhfaaGreatBase
namespace Go.Proofs.YtpbhdlhbcfkhfaaGreat
open Go.RowKit
set_option linter.unusedVariables false
set_option linter.unusedSimpArgs false

def SearchP (k : Nat) (w : World) (e : Ending) (w' : World) : Prop := e = .returned (.int .i64 (k : Int)) ∧ Below w.heap.size w w'
def TestP (k i : Nat) (w : World) (e : Ending) (w' : World) : Prop := e = .returned (.bool (decide (k ≤ i))) ∧ Below w.heap.size w w'

set_option maxRecDepth 100000 in
set_option maxHeartbeats 1000000 in
theorem search_any (n k : Nat) (fn : FuncId) (caps : Array Value) (w : World) (hn : n ≤ 4611686018427387904) (hk : k ≤ n) (hent : ∀ args w, (callFunc fn args).run Tryz.prog w = .ok (.enter fn args) w)
    (hf : Hid (∀ (i : Nat) (wr : World), i < n → Below w.heap.size w wr → Calls Tryz.prog fn (#[.int .i64 (i : Int)] ++ caps) wr (TestP k i wr))) :
    Calls Tryz.prog 69 #[.int .i64 (n : Int), .func (.func fn) #[] caps] w (SearchP k w) := by
  go_enter Tryz.func69, Tryz.ntmps69
  go_wp2
  go_loopw [5, 6] (fun i j wr => ∃ a b : Nat, a ≤ k ∧ k ≤ b ∧ b ≤ n ∧ i = .int .i64 (a : Int) ∧ j = .int .i64 (b : Int) ∧ Below w.heap.size w wr) (fun i j _ => (intOf j).toNat - (intOf i).toNat)
  case atStart => exact ⟨0, n, Nat.zero_le _, hk, Nat.le_refl _, rfl, rfl, Below.refl _ _⟩
  case round =>
    obtain ⟨a, b, ha, hb, hbn, rfl, rfl, B⟩ := hrel
    by_cases hab : a < b
    · have hm1 : a ≤ (a + b) / 2 := by omega
      have hm2 : (a + b) / 2 < b := by omega
      have HM := Lib.hid (show (((a : Int) + (b : Int)) / 2) = (((a + b) / 2 : Nat) : Int) from by omega)
      generalize (a + b) / 2 = m at *
      go_wp2_with fail
      rw [HM.out]
      have hc := hf.out m wr (by omega) B
      by_cases hkm : k ≤ m
      all_goals
        refine hc.mono ?_
        rintro e W2 ⟨rfl, b2⟩
        have B2 := bel_gbn B B.size (gb_below b2)
        clear hc b2 B
        first | rw [decide_eq_true hkm] | rw [decide_eq_false hkm]
        go_wp2
        go_roundw
        case rel => first | exact ⟨a, m, by omega, by omega, by omega, rfl, rfl, B2⟩ | exact ⟨m + 1, b, by omega, by omega, by omega, by go_num, rfl, B2⟩
        case measure => simp [intOf]; omega
    · obtain rfl : a = k := by omega
      go_wp2
      go_ret
      exact ⟨rfl, B⟩

end Go.Proofs.YtpbhdlhbcfkhfaaGreat
