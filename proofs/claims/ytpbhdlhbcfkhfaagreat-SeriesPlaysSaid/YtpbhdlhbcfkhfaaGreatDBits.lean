/-
  Contract of delta.Bits: how many bits samples have. Condition: at most 2^20 samples.
-/
import Derived.Test.YtpbhdlhbcfkhfaaGreatDTow
import Derived.Test.YtpbhdlhbcfkhfaaGreatSamp
namespace Go.Proofs.YtpbhdlhbcfkhfaaGreat
open Go.RowKit
set_option linter.unusedVariables false
set_option linter.unusedSimpArgs false

/-- A walk that stands at sample j of z. -/
def WkZ (w : World) (b : Nat) (z : List (Int × Int)) (j : Nat) : Prop := WkAt w b (tOf z j, vOf z j) (stepOf z j)
def TowP (b : Nat) (z : List (Int × Int)) (j : Nat) (w : World) (e : Ending) (w' : World) : Prop :=
  ∃ tn vn : Nat, e = .returned (.tuple #[.int .u64 (tn : Int), .int .u64 (vn : Int)]) ∧ Hid (tn = tNum z j) ∧ Hid (vn = vNum z j) ∧ tn < 18446744073709551616 ∧ vn < 18446744073709551616 ∧ WkZ w' b z (j + 1) ∧ w.grownBy w' (some b)
theorem tow_any (b : Nat) (z : List (Int × Int)) (j : Nat) (T V : Int) (w : World) (hk : WkZ w b z j) (hT : T = tOf z (j + 1)) (hV : V = vOf z (j + 1)) :
    Calls Tryz.prog 90 #[.pointer (some ⟨b, 0, none⟩), .agg #[.int .i64 T, .int .i64 V]] w (TowP b z j w) := by
  subst hT hV
  refine (toward_any b (tOf z j, vOf z j) (tOf z (j + 1), vOf z (j + 1)) (stepOf z j) w hk).mono ?_
  rintro e w' ⟨rfl, h, g⟩
  exact ⟨_, _, rfl, rfl, rfl, tNum_lt z j, vNum_lt z j, h, g⟩
theorem WkZ.keep {w w' : World} {b : Nat} {z : List (Int × Int)} {j : Nat} {row : Option Nat} (h : WkZ w b z j) (hg : w.grownBy w' row) (hne : some b ≠ row) : WkZ w' b z j := by
  unfold WkZ WkAt at *
  rw [hg.block b (heap_lt h) hne]; exact h

theorem encTo_step (z : List (Int × Int)) (j : Nat) : encTo z (j + 2) = encTo z (j + 1) ++ code (tNum z j) ++ code (vNum z j) := by
  rw [encTo, piece, List.append_assoc]
theorem encTo_len_step (z : List (Int × Int)) (j : Nat) : (encTo z (j + 2)).length = (encTo z (j + 1)).length + csize (tNum z j) + csize (vNum z j) := by
  rw [encTo_step, List.length_append, List.length_append, code_length, code_length]
theorem encTo_len_one (z : List (Int × Int)) : (encTo z 1).length = 128 := by
  rw [encTo, List.length_append, piece_length]; simp [encTo]

set_option maxRecDepth 100000 in
set_option maxHeartbeats 1000000 in
theorem dbits_any (a : Option Addr) (len cap : Nat) (z : List (Int × Int)) (w : World) (hz : SampAt w a len cap z) (hl : len ≤ 1048576) :
    Calls Tryz.prog 76 #[.slice a len cap] w fun e w' => e = .returned (.int .i64 ((encTo z len).length : Int)) ∧ Below w.heap.size w w' := by
  by_cases h0 : len = 0
  · subst h0
    go_enter Tryz.func76, Tryz.ntmps76
    go_wp2
    go_ret
    exact ⟨rfl, Below.refl _ _⟩
  · have hlc := hz.2.1
    obtain ⟨b, off, rfl, hb, hc⟩ := hz.all (by omega)
    have hne : ((len : Int) == 0) = false := by rw [beq_eq_false_iff_ne]; omega
    obtain ⟨off', ho, hsl⟩ := slice_tail b off len cap (by omega) hlc
    have HC : Hid (∀ i, i + 1 < len → w.cell? ⟨b, off' + i * 2, none⟩ = some (.int .i64 (tOf z (i + 1))) ∧ w.cell? ⟨b, off' + i * 2 + 1, none⟩ = some (.int .i64 (vOf z (i + 1)))) := by
      intro i hi
      have := hc (i + 1) hi
      rw [ho (by omega), show off + 2 + i * 2 = off + (i + 1) * 2 from by omega]
      exact this
    obtain ⟨c0, c1⟩ := hc 0 (by omega)
    simp only [Nat.zero_mul, Nat.add_zero] at c0 c1
    have h0' : 0 < len := by omega
    obtain ⟨m, hm⟩ : ∃ m, len - 1 = m := ⟨_, rfl⟩
    have hm1 : m + 1 ≤ len := by omega
    have hm2 : len ≤ m + 1 := by omega
    rw [hm] at hsl
    generalize cap - 1 = cap' at hsl
    clear hz hc ho h0 hm
    go_enter Tryz.func76, Tryz.ntmps76
    go_wp2
    have B1 := (Below.refl w.heap.size w).alloc (Nat.le_refl _) (.cells #[.int .i64 (tOf z 0), .int .i64 (vOf z 0), .int .i64 0] 114)
    have K1 : WkZ (w.alloc (.cells #[.int .i64 (tOf z 0), .int .i64 (vOf z 0), .int .i64 0] 114)) w.heap.size z 0 := heap_new w _
    have s1 : w.heap.size < (w.alloc (.cells #[.int .i64 (tOf z 0), .int .i64 (vOf z 0), .int .i64 0] 114)).heap.size := by simp
    generalize w.alloc (.cells #[.int .i64 (tOf z 0), .int .i64 (vOf z 0), .int .i64 0] 114) = W1 at *
    clear c0 c1 hsl
    go_loopw [3, 19] (fun t i wr => ∃ j : Nat, j ≤ m ∧ i = .int .i64 (j : Int) ∧ t = .int .i64 ((encTo z (j + 1)).length : Int) ∧ WkZ wr w.heap.size z j ∧ Below w.heap.size w wr ∧ w.heap.size < wr.heap.size) (fun _ i _ => m - (intOf i).toNat)
    case atStart => exact ⟨0, Nat.zero_le _, rfl, by rw [encTo_len_one]; rfl, K1, B1, s1⟩
    case round =>
      obtain ⟨j, hj, rfl, rfl, hk, B2, s2⟩ := hrel
      have hle := encTo_le z (j + 1)
      by_cases hjm : j < m
      · obtain ⟨c0, c1⟩ := HC.out j (by omega)
        rw [← B2.cell hb] at c0 c1
        have HS := Lib.hid (encTo_len_step z j)
        have hle2 := encTo_le z (j + 2)
        obtain ⟨L, hL⟩ : ∃ L, (encTo z (j + 1)).length = L := ⟨_, rfl⟩
        obtain ⟨L2, hL2⟩ : ∃ L2, (encTo z (j + 2)).length = L2 := ⟨_, rfl⟩
        rw [hL] at hle HS ⊢
        rw [hL2] at hle2 HS
        have HL2 := Lib.hid hL2
        obtain ⟨T, hT⟩ : ∃ T, T = tOf z (j + 1) := ⟨_, rfl⟩
        obtain ⟨V, hV⟩ : ∃ V, V = vOf z (j + 1) := ⟨_, rfl⟩
        rw [← hT] at c0
        rw [← hV] at c1
        have HT := Lib.hid hT
        have HV := Lib.hid hV
        clear hT hV hL hL2
        go_wp2_with fail
        have B3 := B2.alloc (by omega) (.cells #[.int .i64 T, .int .i64 V] 33)
        have s3 : w.heap.size < (wr.alloc (.cells #[.int .i64 T, .int .i64 V] 33)).heap.size := by simp; omega
        have hk3 := hk.keep (World.grownBy_alloc wr (.cells #[.int .i64 T, .int .i64 V] 33) none) (by simp)
        clear hk B2 c0 c1
        generalize wr.alloc (.cells #[.int .i64 T, .int .i64 V] 33) = W3 at *
        refine (tow_any w.heap.size z j T V _ hk3 HT.out HV.out).mono ?_
        rintro e W4 ⟨tn, vn, rfl, HTN, HVN, htn, hvn, hk4, g4⟩
        have B4 := bel_gb B3 (by omega) (Nat.le_refl _) g4
        have s4 := Nat.lt_of_lt_of_le s3 g4.size
        clear hk3 B3 s3 g4
        go_wp2_with fail
        refine (size_any tn _ htn).mono ?_
        rintro e w' ⟨rfl, rfl⟩
        have b1 := csize_le tn
        have b2 := csize_le vn
        have HS2 : Hid (L2 = L + csize tn + csize vn) := by rw [HTN.out, HVN.out]; exact HS.out
        generalize csize tn = x1 at *
        go_wp2_with fail
        refine (size_any vn _ hvn).mono ?_
        rintro e w' ⟨rfl, rfl⟩
        generalize csize vn = x2 at *
        go_wp2
        go_roundw
        case rel => exact ⟨j + 1, by omega, by go_num, by rw [show j + 1 + 1 = j + 2 from rfl, HL2.out, HS2.out]; go_num, hk4, B4, s4⟩
        case measure => simp [intOf]; omega
      · obtain rfl : j = m := by omega
        go_wp2
        go_ret
        obtain rfl : len = j + 1 := by omega
        exact ⟨rfl, B2⟩

theorem encTo_one (z : List (Int × Int)) : encTo z 1 = [] ++ bitsOf (u64 (tOf z 0)) 64 ++ bitsOf (u64 (vOf z 0)) 64 := by
  rw [encTo, encTo, piece, firstB, List.nil_append, List.nil_append]

end Go.Proofs.YtpbhdlhbcfkhfaaGreat
