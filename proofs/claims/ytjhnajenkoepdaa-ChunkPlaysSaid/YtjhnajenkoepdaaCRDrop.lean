/-
  Contracts of the document's own answer for layer 4: Without, Drop, Get.
  Condition: at most 1000 samples.
-/
import Derived.Test.YtjhnajenkoepdaaCRef
import Derived.Test.YtjhnajenkoepdaaCGets
namespace Go.Proofs.Ytjhnajenkoepdaa
open Go.RowKit
set_option linter.unusedVariables false
set_option linter.unusedSimpArgs false

def kept (x y : Int) (u : Int × Int) : Bool := decide (u.1 < x) || decide (y < u.1)
theorem kept_take (z : List (Int × Int)) (x y : Int) (j : Nat) (h : j < z.length) : (z.take (j + 1)).filter (kept x y) = (z.take j).filter (kept x y) ++ (if kept x y (tOf z j, vOf z j) = true then [(tOf z j, vOf z j)] else []) := by
  have e : z[j] = (tOf z j, vOf z j) := by unfold tOf vOf; rw [List.getD_eq_getElem?_getD, List.getElem?_eq_getElem h]; rfl
  rw [List.take_succ_eq_append_getElem h, List.filter_append, e]
  congr 1
  by_cases hk : kept x y (tOf z j, vOf z j) = true <;> simp [hk]

set_option maxRecDepth 100000 in
set_option maxHeartbeats 4000000 in
theorem without_any (a : Option Addr) (len cap : Nat) (z : List (Int × Int)) (x y : Int) (N : Nat) (w : World) (hz : Lst w a len cap z) (hr : Rising z) (hl : len ≤ 1000) (hN : (dropL z x y).length = N) :
    Calls Try.prog 48 #[.slice a len cap, .int .i64 x, .int .i64 y] w fun e w' => ∃ ad cp, e = .returned (.slice ad N cp) ∧ Lst w' ad N cp (dropL z x y) ∧ Below w.heap.size w w' := by
  have HLN := Lib.hid hz.len
  have HL := Lib.hid hz
  have h64 := Lib.hid hz.all64
  have HFI := Lib.hid (show z.filter (kept x y) = dropL z x y from filter_is hr x y)
  have HN := Lib.hid hN
  have H64D := Lib.hid (dropL_all64 hz.all64 x y)
  have hND : N ≤ 1000 := by rw [← hN, dropL_length, hz.len]; omega
  clear hz hr hN
  go_enter Try.func48, Try.ntmps48
  go_wp2_with fail
  go_loopw [7, 8] (fun o i wr => ∃ j n : Nat, j ≤ len ∧ n ≤ j ∧ i = .int .i64 (j : Int) ∧ Hid (((z.take j).filter (kept x y)).length = n) ∧ wr.ownsRow w.heap.size 31 2 o n (smpCells ((z.take j).filter (kept x y))) ∧ Below w.heap.size w wr) (fun _ i _ => len - (intOf i).toNat)
  case atStart => exact ⟨0, 0, Nat.zero_le _, Nat.le_refl _, rfl, Lib.hid rfl, World.ownsRow_nil _ _ _ _, Below.refl _ _⟩
  case round =>
    obtain ⟨j, n, hj, hnj, rfl, HFL, hown, B2⟩ := hrel
    have s2 := B2.size
    by_cases hjl : j < len
    · obtain ⟨q, o, rfl, hq, x0, x1⟩ := HL.out.1.at_ j hjl
      rw [← B2.cell hq] at x0 x1
      have HKT := Lib.hid (kept_take z x y j (by rw [HLN.out]; exact hjl))
      have h6 := all64_at h64.out j
      generalize tOf z j = T at *
      generalize vOf z j = V at *
      have HKD := Lib.hid (show kept x y (T, V) = (decide (T < x) || decide (y < T)) from rfl)
      rcases (show T < x ∨ (¬ T < x ∧ y < T) ∨ (¬ T < x ∧ ¬ y < T) by omega) with h1 | ⟨h1, h2⟩ | ⟨h1, h2⟩
      · have hk : kept x y (T, V) = true := by rw [HKD.out, decide_eq_true h1]; rfl
        have HT := Lib.hid (show (z.take (j + 1)).filter (kept x y) = (z.take j).filter (kept x y) ++ [(T, V)] from by rw [HKT.out, hk]; simp)
        clear hk HKD HKT
        have LS := one_lst wr T V h6.1 h6.2
        have o4 := hown.alloc (.cells #[.int .i64 T, .int .i64 V] 31)
        have B4 := B2.alloc s2 (.cells #[.int .i64 T, .int .i64 V] 31)
        have s4 : w.heap.size ≤ (wr.alloc (.cells #[.int .i64 T, .int .i64 V] 31)).heap.size := by simp; omega
        go_wp2_with (at_builtin; (refine wpList_append_lst ?_ (.tmp 31) (.tmp 36) rfl w.heap.size _ n ((z.take j).filter (kept x y)) rfl HFL.out o4 _ 1 1 [(T, V)] rfl LS (by omega) s4 ?_))
        intro v5 W5 o5 g5
        have B5 := B4.grown g5 s4 (fun k hk => (o4.lt k hk).1)
        clear o4 LS B4 s4 x0 x1 g5 hown B2
        go_wp2
        go_roundw
        case rel => exact ⟨j + 1, n + 1, by omega, by omega, by go_num, Lib.hid (by rw [HT.out, List.length_append, HFL.out]; rfl), by rw [HT.out]; exact o5, B5⟩
        case measure => simp [intOf]; omega
      · have hk : kept x y (T, V) = true := by rw [HKD.out, decide_eq_true h2]; simp
        have HT := Lib.hid (show (z.take (j + 1)).filter (kept x y) = (z.take j).filter (kept x y) ++ [(T, V)] from by rw [HKT.out, hk]; simp)
        clear hk HKD HKT
        have LS := one_lst wr T V h6.1 h6.2
        have o4 := hown.alloc (.cells #[.int .i64 T, .int .i64 V] 31)
        have B4 := B2.alloc s2 (.cells #[.int .i64 T, .int .i64 V] 31)
        have s4 : w.heap.size ≤ (wr.alloc (.cells #[.int .i64 T, .int .i64 V] 31)).heap.size := by simp; omega
        go_wp2_with (at_builtin; (refine wpList_append_lst ?_ (.tmp 31) (.tmp 36) rfl w.heap.size _ n ((z.take j).filter (kept x y)) rfl HFL.out o4 _ 1 1 [(T, V)] rfl LS (by omega) s4 ?_))
        intro v5 W5 o5 g5
        have B5 := B4.grown g5 s4 (fun k hk => (o4.lt k hk).1)
        clear o4 LS B4 s4 x0 x1 g5 hown B2
        go_wp2
        go_roundw
        case rel => exact ⟨j + 1, n + 1, by omega, by omega, by go_num, Lib.hid (by rw [HT.out, List.length_append, HFL.out]; rfl), by rw [HT.out]; exact o5, B5⟩
        case measure => simp [intOf]; omega
      · have hk : kept x y (T, V) = false := by rw [HKD.out, decide_eq_false h1, decide_eq_false h2]; rfl
        have HT := Lib.hid (show (z.take (j + 1)).filter (kept x y) = (z.take j).filter (kept x y) from by rw [HKT.out, hk]; simp)
        have hd1 : decide (T < x) = false := decide_eq_false h1
        have hd2 : decide (y < T) = false := decide_eq_false h2
        clear hk HKD HKT
        go_wp2
        go_roundw
        case rel => exact ⟨j + 1, n, by omega, by omega, by go_num, by rw [HT.out]; exact HFL, by rw [HT.out]; exact hown, B2⟩
        case measure => simp [intOf]; omega
    · obtain rfl : len = j := by omega
      have HE := Lib.hid (show (z.take len).filter (kept x y) = dropL z x y from by rw [← HLN.out, List.take_length]; exact HFI.out)
      rw [HE.out] at hown HFL
      have hnN : n = N := by rw [← HFL.out]; exact HN.out
      subst hnN
      obtain ⟨ad, cp, rfl, L9⟩ := owns_lst HN.out H64D.out (by omega) hown
      go_wp2
      go_ret
      exact ⟨ad, cp, rfl, L9, B2⟩

theorem dropN_is (z : List (Int × Int)) (x y : Int) : z.length = (dropL z x y).length + dropN z x y := by
  have h1 := dropL_length z x y
  have h2 := upt_le z y
  unfold dropN at *
  omega

set_option maxHeartbeats 1000000 in
theorem rdrop_ok (b : Nat) (sz : Int) (z : List (Int × Int)) (x y : Int) (w : World) (h : RCk w b sz z) (hr : Rising z) (hn : z.length ≤ 1000) :
    Calls Try.prog 33 #[.pointer (some ⟨b, 0, none⟩), .int .i64 x, .int .i64 y] w (ErrP 61 b sz (dropN z x y : Int) (dropL z x y) w) := by
  have hb := h.lt
  obtain ⟨a, cap, hc, hl⟩ := h
  have HC := Lib.hid hc
  have HL := Lib.hid hl
  have HR := Lib.hid hr
  have c1 : w.cell? ⟨b, 1, none⟩ = some (.slice a z.length cap) := by rw [cell_of hc]; rfl
  have hdn := dropN_is z x y
  obtain ⟨N, hN⟩ : ∃ N, (dropL z x y).length = N := ⟨_, rfl⟩
  rw [hN] at hdn
  have HN := Lib.hid hN
  have HDN := Lib.hid hdn
  clear hc hl hr hN hdn
  go_enter Try.func33, Try.ntmps33
  go_wp2_with fail
  refine (without_any a _ cap z x y N _ HL.out HR.out hn HN.out).mono ?_
  rintro e W1 ⟨ad, cp, rfl, L1, b1⟩
  have hc1 := (b1.block b hb).trans HC.out
  have d1 : W1.cell? ⟨b, 1, none⟩ = some (.slice a z.length cap) := by rw [cell_of hc1]; rfl
  have f1 := frozen_of (o := 1) hc1
  have HC1 := Lib.hid hc1
  have hc2 := heap_set (o := 1) (v := .slice ad N cp) hc1
  have u1 : (W1.setCell ⟨b, 1, none⟩ (.slice ad N cp)).cell? ⟨b, 1, none⟩ = some (.slice ad N cp) := by rw [cell_of hc2]; rfl
  have HL1 := Lib.hid L1
  have hd := HDN.out
  have hd2 : ((z.length : Nat) : Int) - (N : Int) = ((dropN z x y : Nat) : Int) := by omega
  have HD2 := Lib.hid hd2
  have hNz : N ≤ z.length := by omega
  clear c1 hc1 hc2 L1 hd hd2
  go_wp2
  go_ret
  refine ⟨ret_int HD2.out, ?_, gb_set (gb_below b1) _ _⟩
  have hlst := HL1.out
  rw [← HN.out] at hlst ⊢
  exact CAt.set HC1.out hlst (by decide)

set_option maxHeartbeats 1000000 in
theorem rget_ok (b : Nat) (sz : Int) (z : List (Int × Int)) (t : Int) (w : World) (h : RCk w b sz z) (hr : Rising z) (hn : z.length ≤ 1048576) :
    Calls Try.prog 35 #[.pointer (some ⟨b, 0, none⟩), .int .i64 t] w (PairP (getL z t) w) := by
  obtain ⟨a, cap, hc, hl⟩ := h
  have HL := Lib.hid hl
  have HR := Lib.hid hr
  have c1 : w.cell? ⟨b, 1, none⟩ = some (.slice a z.length cap) := by rw [cell_of hc]; rfl
  clear hc hl hr
  go_enter Try.func35, Try.ntmps35
  go_wp2_with fail
  go_loop [6] (fun i => ∃ j : Nat, j ≤ z.length ∧ i = .int .i64 (j : Int) ∧ Hid (∀ k, k < j → tOf z k ≠ t)) (fun i => z.length - (intOf i).toNat)
  case atStart => exact ⟨0, Nat.zero_le _, rfl, Lib.hid (fun k hk => absurd hk (Nat.not_lt_zero _))⟩
  case round =>
    obtain ⟨j, hj, rfl, HNO⟩ := hrel
    by_cases hjl : j < z.length
    · obtain ⟨q, o, rfl, hq, x0, x1⟩ := HL.out.1.at_ j hjl
      by_cases hT : tOf z j = t
      · have HG := Lib.hid (show getL z t = (vOf z j, 0) from getL_mem HR.out (by rw [← hT]; exact at_mem hjl))
        have he : (tOf z j == t) = true := by simpa using hT
        clear hT
        generalize tOf z j = T at *
        generalize vOf z j = V at *
        go_wp2
        go_ret2
        exact ⟨by rw [HG.out]; rfl, Below.refl _ _⟩
      · have HNO2 := Lib.hid (show ∀ k, k < j + 1 → tOf z k ≠ t from fun k hk => by
          by_cases e : k = j
          · subst e; exact hT
          · exact HNO.out k (by omega))
        have he : (tOf z j == t) = false := by rw [beq_eq_false_iff_ne]; exact hT
        clear hT
        generalize tOf z j = T at *
        go_wp2
        go_round
        case rel => exact ⟨j + 1, by omega, by go_num, HNO2⟩
        case measure => simp [intOf]; omega
    · obtain rfl : z.length = j := by omega
      have HG := Lib.hid (show getL z t = (0, 5) from getL_no HR.out (fun u hu e => by
        obtain ⟨i, hi, h1, _⟩ := mem_at hu
        exact HNO.out i hi (by rw [h1]; exact e)))
      go_wp2
      go_ret2
      exact ⟨by rw [HG.out]; rfl, Below.refl _ _⟩

end Go.Proofs.Ytjhnajenkoepdaa
