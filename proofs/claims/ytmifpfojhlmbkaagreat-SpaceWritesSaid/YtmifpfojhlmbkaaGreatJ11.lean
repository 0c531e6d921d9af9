/-
  Contracts.
-/
import Derived.Test.YtmifpfojhlmbkaaGreatJ0
import Derived.Test.YtmifpfojhlmbkaaGreatJ9
import Derived.Test.YtmifpfojhlmbkaaGreatJ10
import Derived.Deep.RegionHeld3
import Derived.IntWalk
import Derived.Shelf.Abstract
namespace Go.Proofs.YtmifpfojhlmbkaaGreat
open Lib (hid)
set_option maxRecDepth 100000
set_option maxHeartbeats 16000000
open Go.RowKit
set_option linter.unusedVariables false
set_option linter.unusedSimpArgs false
def PCk (w : World) (b : Nat) (sz : Int) (z : List (Int × Int)) : Prop := CAt 202 w b sz z
theorem isNone_no (b : Nat) (sz : Int) (v : Value) (w : World) (hc : w.heap[b]? = some (.cells #[.int .i64 sz, v] 202 (0, 0))) (h : 1 ≤ sz) :
    Calls Tryz.prog 136 #[.pointer (some ⟨b, 0, none⟩)] w fun e w' => e = .returned (.bool false) ∧ w = w' := by
  have c0 : w.cell? ⟨b, 0, none⟩ = some (.int .i64 sz) := by rw [cell_of hc]; rfl
  have hne : (sz == 0) = false := by rw [beq_eq_false_iff_ne]; omega
  clear hc
  go_enter Tryz.func136, Tryz.ntmps136
  go_wp2
  go_ret
  exact ⟨rfl, rfl⟩
theorem list_ok (b : Nat) (sz : Int) (a : Option Addr) (len cap : Nat) (w : World) (hc : w.heap[b]? = some (.cells #[.int .i64 sz, .slice a len cap] 202 (0, 0))) (h : 1 ≤ sz) :
    Calls Tryz.prog 190 #[.pointer (some ⟨b, 0, none⟩)] w fun e w' => e = .returned (.slice a len cap) ∧ w = w' := by
  have c1 : w.cell? ⟨b, 1, none⟩ = some (.slice a len cap) := by rw [cell_of hc]; rfl
  have HC := hid hc
  clear hc
  go_enter Tryz.func190, Tryz.ntmps190
  go_wp2_with fail
  refine (isNone_no b sz _ _ HC.out h).mono ?_
  rintro e w' ⟨rfl, rfl⟩
  go_wp2
  go_ret
  exact ⟨rfl, rfl⟩
def NewP (ty : TypeId) (size : Int) (w : World) (e : Ending) (w' : World) : Prop :=
  (¬ (128 ≤ size ∧ size ≤ 4096) ∧ e = .returned (.tuple #[.pointer none, .int .i64 1]) ∧ w = w') ∨
  (128 ≤ size ∧ size ≤ 4096 ∧ e = .returned (.tuple #[.pointer (some ⟨w.heap.size, 0, none⟩), .int .i64 0]) ∧ CAt ty w' w.heap.size size [] ∧ Below w.heap.size w w' ∧ w'.heap.size = w.heap.size + 1)
theorem cnew_any (size : Int) (w : World) : Calls Tryz.prog 223 #[.int .i64 size] w (NewP 202 size w) := by
  by_cases h1 : size < 128
  · go_enter Tryz.func223, Tryz.ntmps223
    go_wp2
    go_ret2
    exact .inl ⟨by omega, rfl, rfl⟩
  · by_cases h2 : 4096 < size
    · go_enter Tryz.func223, Tryz.ntmps223
      go_wp2
      go_ret2
      exact .inl ⟨by omega, rfl, rfl⟩
    · go_enter Tryz.func223, Tryz.ntmps223
      go_wp2
      go_ret2
      exact .inr ⟨by omega, by omega, rfl, CAt.new _ w size none 0 [] (Lst.nil w), (Below.refl _ w).alloc (Nat.le_refl _) _, by simp⟩
theorem len_ok (b : Nat) (sz : Int) (z : List (Int × Int)) (w : World) (h : PCk w b sz z) (hs : 1 ≤ sz) :
    Calls Tryz.prog 123 #[.pointer (some ⟨b, 0, none⟩)] w fun e w' => e = .returned (.int .i64 (z.length : Int)) ∧ w = w' := by
  obtain ⟨a, cap, hc, hl⟩ := h
  have HC := hid hc
  clear hc
  go_enter Tryz.func123, Tryz.ntmps123
  go_wp2_with fail
  refine (list_ok b sz a _ cap _ HC.out hs).mono ?_
  rintro e w' ⟨rfl, rfl⟩
  go_wp2
  go_ret
  exact ⟨rfl, rfl⟩
theorem size_ok (b : Nat) (sz : Int) (z : List (Int × Int)) (w : World) (h : PCk w b sz z) :
    Calls Tryz.prog 212 #[.pointer (some ⟨b, 0, none⟩)] w fun e w' => e = .returned (.int .i64 sz) ∧ w = w' := by
  obtain ⟨a, cap, hc, hl⟩ := h
  have c0 : w.cell? ⟨b, 0, none⟩ = some (.int .i64 sz) := by rw [cell_of hc]; rfl
  clear hc hl
  go_enter Tryz.func212, Tryz.ntmps212
  go_wp2
  go_ret
  exact ⟨rfl, rfl⟩
def NumP (n : Nat) (w : World) (e : Ending) (w' : World) : Prop := e = .returned (.int .i64 (n : Int)) ∧ Below w.heap.size w w'
theorem bits_lst (a : Option Addr) (len cap : Nat) (z : List (Int × Int)) (w : World) (hz : Lst w a len cap z) (hl : len ≤ 1048576) :
    Calls Tryz.prog 265 #[.slice a len cap] w (NumP (bitsZ z) w) := by
  have e := hz.len
  subst e
  exact dbits_any a _ cap z w hz.1 hl
theorem used_ok (b : Nat) (sz : Int) (z : List (Int × Int)) (w : World) (h : PCk w b sz z) (hs : 1 ≤ sz) (hz : z.length ≤ 1048576) :
    Calls Tryz.prog 211 #[.pointer (some ⟨b, 0, none⟩)] w (NumP (usedL z) w) := by
  obtain ⟨a, cap, hc, hl⟩ := h
  have HC := hid hc
  have HL := hid hl
  have HU := hid (show usedL z = (bitsZ z + 7) / 8 from rfl)
  have hle := bitsZ_le z
  clear hc hl
  go_enter Tryz.func211, Tryz.ntmps211
  go_wp2_with fail
  refine (list_ok b sz a _ cap _ HC.out hs).mono ?_
  rintro e w' ⟨rfl, rfl⟩
  go_wp2_with fail
  refine (bits_lst a _ cap z _ HL.out hz).mono ?_
  rintro e w' ⟨rfl, b1⟩
  generalize bitsZ z = n at *
  go_wp2
  go_ret
  exact ⟨ret_int (by rw [HU.out]; omega), b1⟩
theorem parts_one {w : World} {a : Option Addr} {len cap : Nat} {z : List (Int × Int)} (h : Lst w a len cap z) :
    PartsAt (w.alloc (.cells #[.slice a len cap] 52)) w.heap.size [z] (fun _ => a) (fun _ => cap) := by
  have e := h.len
  subst e
  intro i hi
  obtain rfl : i = 0 := by simp at hi; omega
  exact ⟨by rw [cell_of (heap_new w _)]; rfl, h.keepN (World.grownBy_alloc w _ none)⟩
theorem all_new (b : Nat) (sz : Int) (z : List (Int × Int)) (w : World) (h : PCk w b sz z) (hs : 1 ≤ sz) (hz : z.length ≤ 1048576) :
    Calls Tryz.prog 134 #[.pointer (some ⟨b, 0, none⟩)] w (LaidN z w) := by
  obtain ⟨a, cap, hc, hl⟩ := h
  have HC := hid hc
  have HP := hid (parts_one hl)
  have HB := hid ((Below.refl w.heap.size w).alloc (Nat.le_refl _) (.cells #[.slice a z.length cap] 52))
  have hsz : w.heap.size < (w.alloc (.cells #[.slice a z.length cap] 52)).heap.size := by simp
  clear hc hl
  go_enter Tryz.func134, Tryz.ntmps134
  go_wp2_with fail
  refine (list_ok b sz a _ cap _ HC.out hs).mono ?_
  rintro e w' ⟨rfl, rfl⟩
  go_wp2_with fail
  generalize w.alloc (.cells #[.slice a z.length cap] 52) = W1 at *
  refine (laid_new w.heap.size [z] _ _ 1 W1 rfl HP.out hsz (by simpa using hz) (by omega)).mono ?_
  rintro e W2 ⟨a2, cap2, rfl, hl2, b2, f2⟩
  have F2 : ∀ q, a2 = some q → w.heap.size ≤ q.block := fun q e => Nat.le_trans (Nat.le_of_lt hsz) (f2 q e)
  have HF2 := hid F2
  clear f2 F2
  have B2 := HB.out.trans (b2.mono (Nat.le_of_lt hsz))
  simp only [List.flatten_cons, List.flatten_nil, List.append_nil] at hl2 ⊢
  clear b2 HB HP HC hsz
  go_wp2
  go_ret
  exact ⟨a2, cap2, rfl, hl2, B2, HF2.out⟩
def EndP (z : List (Int × Int)) (i : Nat) (w : World) (e : Ending) (w' : World) : Prop :=
  e = .returned (.tuple #[.agg #[.int .i64 (tOf z i), .int .i64 (vOf z i)], .bool (decide (0 < z.length))]) ∧ Below w.heap.size w w'
theorem first_ok (b : Nat) (sz : Int) (z : List (Int × Int)) (w : World) (h : PCk w b sz z) (hs : 1 ≤ sz) (hz : z.length ≤ 1048576) :
    Calls Tryz.prog 205 #[.pointer (some ⟨b, 0, none⟩)] w (EndP z (0) w) := by
  obtain ⟨a, cap, hc, hl⟩ := h
  have hc2 : (w.alloc (.cells #[.int .i64 0, .int .i64 0] 27)).heap[b]? = _ := heap_old hc
  have B1 := (Below.refl w.heap.size w).alloc (Nat.le_refl _) (.cells #[.int .i64 0, .int .i64 0] 27)
  have hn := heap_new w (.cells #[.int .i64 0, .int .i64 0] 27)
  have hl2 := hl.keepN (World.grownBy_alloc w (.cells #[.int .i64 0, .int .i64 0] 27) none)
  have HC := hid hc2
  have HN := hid hn
  clear hc hc2 hn hl
  by_cases h0 : z.length = 0
  · obtain rfl : z = [] := List.eq_nil_of_length_eq_zero h0
    clear h0 hl2
    go_enter Tryz.func205, Tryz.ntmps205
    go_wp2_with fail
    generalize w.alloc (.cells #[.int .i64 0, .int .i64 0] 27) = W1 at *
    refine (list_ok b sz a _ cap _ HC.out hs).mono ?_
    rintro e w' ⟨rfl, rfl⟩
    have c0 : W1.cell? ⟨w.heap.size, 0, none⟩ = some (.int .i64 0) := by rw [cell_of HN.out]; rfl
    have c1 : W1.cell? ⟨w.heap.size, 1, none⟩ = some (.int .i64 0) := by rw [cell_of HN.out]; rfl
    have f0 := frozen_of (o := 0) HN.out
    have f1 := frozen_of (o := 1) HN.out
    go_wp2
    have r0 := heap_set (o := 0) (v := .int .i64 0) HN.out
    have r1 := heap_set (o := 1) (v := .int .i64 0) r0
    have j0 := (cell_of (o := 0) r1).trans (by rfl : _ = some (Value.int .i64 0))
    have j1 := (cell_of (o := 1) r1).trans (by rfl : _ = some (Value.int .i64 0))
    clear r0 r1
    exact bodyPost_ret (v := .tuple #[.agg #[.int .i64 0, .int .i64 0], .bool false]) (by simp [results, Tryz.results205, go_sem, j0, j1]) rfl ⟨rfl, (B1.setCell (Nat.le_refl _) _).setCell (Nat.le_refl _) _⟩
  · obtain ⟨p, o, rfl, hp, x0, x1⟩ := hl2.1.at_ (0) (by omega)
    have hne : ((z.length : Int) == 0) = false := by rw [beq_eq_false_iff_ne]; omega
    have HD := hid (show decide (0 < z.length) = true from by simp; omega)
    have hpos : 0 < z.length := by omega
    have HX0 := hid x0
    have HX1 := hid x1
    clear x0 x1 h0 hl2
    unfold EndP
    generalize tOf z (0) = T at *
    generalize vOf z (0) = V at *
    generalize hm : z.length = m at *
    clear hm
    go_enter Tryz.func205, Tryz.ntmps205
    go_wp2_with fail
    generalize w.alloc (.cells #[.int .i64 0, .int .i64 0] 27) = W1 at *
    refine (list_ok b sz _ _ cap _ HC.out hs).mono ?_
    rintro e w' ⟨rfl, rfl⟩
    have c0 : W1.cell? ⟨w.heap.size, 0, none⟩ = some (.int .i64 0) := by rw [cell_of HN.out]; rfl
    have c1 : W1.cell? ⟨w.heap.size, 1, none⟩ = some (.int .i64 0) := by rw [cell_of HN.out]; rfl
    have f0 := frozen_of (o := 0) HN.out
    have f1 := frozen_of (o := 1) HN.out
    have x0 := HX0.out
    have x1 := HX1.out
    simp only [Nat.zero_mul, Nat.add_zero] at x0 x1
    go_wp2
    have r0 := heap_set (o := 0) (v := .int .i64 T) HN.out
    have r1 := heap_set (o := 1) (v := .int .i64 V) r0
    have j0 := (cell_of (o := 0) r1).trans (by rfl : _ = some (Value.int .i64 T))
    have j1 := (cell_of (o := 1) r1).trans (by rfl : _ = some (Value.int .i64 V))
    clear r0 r1
    exact bodyPost_ret (v := .tuple #[.agg #[.int .i64 T, .int .i64 V], .bool true]) (by simp [results, Tryz.results205, go_sem, j0, j1]) rfl ⟨by rw [HD.out], (B1.setCell (Nat.le_refl _) _).setCell (Nat.le_refl _) _⟩
theorem last_ok (b : Nat) (sz : Int) (z : List (Int × Int)) (w : World) (h : PCk w b sz z) (hs : 1 ≤ sz) (hz : z.length ≤ 1048576) :
    Calls Tryz.prog 113 #[.pointer (some ⟨b, 0, none⟩)] w (EndP z (z.length - 1) w) := by
  obtain ⟨a, cap, hc, hl⟩ := h
  have hc2 : (w.alloc (.cells #[.int .i64 0, .int .i64 0] 27)).heap[b]? = _ := heap_old hc
  have B1 := (Below.refl w.heap.size w).alloc (Nat.le_refl _) (.cells #[.int .i64 0, .int .i64 0] 27)
  have hn := heap_new w (.cells #[.int .i64 0, .int .i64 0] 27)
  have hl2 := hl.keepN (World.grownBy_alloc w (.cells #[.int .i64 0, .int .i64 0] 27) none)
  have HC := hid hc2
  have HN := hid hn
  clear hc hc2 hn hl
  by_cases h0 : z.length = 0
  · obtain rfl : z = [] := List.eq_nil_of_length_eq_zero h0
    clear h0 hl2
    go_enter Tryz.func113, Tryz.ntmps113
    go_wp2_with fail
    generalize w.alloc (.cells #[.int .i64 0, .int .i64 0] 27) = W1 at *
    refine (list_ok b sz a _ cap _ HC.out hs).mono ?_
    rintro e w' ⟨rfl, rfl⟩
    have c0 : W1.cell? ⟨w.heap.size, 0, none⟩ = some (.int .i64 0) := by rw [cell_of HN.out]; rfl
    have c1 : W1.cell? ⟨w.heap.size, 1, none⟩ = some (.int .i64 0) := by rw [cell_of HN.out]; rfl
    have f0 := frozen_of (o := 0) HN.out
    have f1 := frozen_of (o := 1) HN.out
    go_wp2
    have r0 := heap_set (o := 0) (v := .int .i64 0) HN.out
    have r1 := heap_set (o := 1) (v := .int .i64 0) r0
    have j0 := (cell_of (o := 0) r1).trans (by rfl : _ = some (Value.int .i64 0))
    have j1 := (cell_of (o := 1) r1).trans (by rfl : _ = some (Value.int .i64 0))
    clear r0 r1
    exact bodyPost_ret (v := .tuple #[.agg #[.int .i64 0, .int .i64 0], .bool false]) (by simp [results, Tryz.results113, go_sem, j0, j1]) rfl ⟨rfl, (B1.setCell (Nat.le_refl _) _).setCell (Nat.le_refl _) _⟩
  · obtain ⟨p, o, rfl, hp, x0, x1⟩ := hl2.1.at_ (z.length - 1) (by omega)
    have hne : ((z.length : Int) == 0) = false := by rw [beq_eq_false_iff_ne]; omega
    have HD := hid (show decide (0 < z.length) = true from by simp; omega)
    have hpos : 0 < z.length := by omega
    have HX0 := hid x0
    have HX1 := hid x1
    clear x0 x1 h0 hl2
    unfold EndP
    generalize tOf z (z.length - 1) = T at *
    generalize vOf z (z.length - 1) = V at *
    generalize hm : z.length = m at *
    clear hm
    go_enter Tryz.func113, Tryz.ntmps113
    go_wp2_with fail
    generalize w.alloc (.cells #[.int .i64 0, .int .i64 0] 27) = W1 at *
    refine (list_ok b sz _ _ cap _ HC.out hs).mono ?_
    rintro e w' ⟨rfl, rfl⟩
    have c0 : W1.cell? ⟨w.heap.size, 0, none⟩ = some (.int .i64 0) := by rw [cell_of HN.out]; rfl
    have c1 : W1.cell? ⟨w.heap.size, 1, none⟩ = some (.int .i64 0) := by rw [cell_of HN.out]; rfl
    have f0 := frozen_of (o := 0) HN.out
    have f1 := frozen_of (o := 1) HN.out
    have x0 := HX0.out
    have x1 := HX1.out
    obtain ⟨q, rfl⟩ : ∃ q, m = q + 1 := ⟨m - 1, by omega⟩
    rw [Nat.add_sub_cancel] at x0 x1
    have hq : ((q + 1 : Nat) : Int) - 1 = (q : Int) := by omega
    have hq0 : (0 : Int) ≤ (q : Int) := by omega
    go_wp2
    have r0 := heap_set (o := 0) (v := .int .i64 T) HN.out
    have r1 := heap_set (o := 1) (v := .int .i64 V) r0
    have j0 := (cell_of (o := 0) r1).trans (by rfl : _ = some (Value.int .i64 T))
    have j1 := (cell_of (o := 1) r1).trans (by rfl : _ = some (Value.int .i64 V))
    clear r0 r1
    exact bodyPost_ret (v := .tuple #[.agg #[.int .i64 T, .int .i64 V], .bool true]) (by simp [results, Tryz.results113, go_sem, j0, j1]) rfl ⟨by rw [HD.out], (B1.setCell (Nat.le_refl _) _).setCell (Nat.le_refl _) _⟩
def SearchP (k : Nat) (w : World) (e : Ending) (w' : World) : Prop := e = .returned (.int .i64 (k : Int)) ∧ Below w.heap.size w w'
def TestP (k i : Nat) (w : World) (e : Ending) (w' : World) : Prop := e = .returned (.bool (decide (k ≤ i))) ∧ Below w.heap.size w w'
theorem search_any (n k : Nat) (fn : FuncId) (caps : Array Value) (w : World) (hn : n ≤ 4611686018427387904) (hk : k ≤ n) (hent : ∀ args w, (callFunc fn args).run Tryz.prog w = .ok (.enter fn args) w)
    (hf : Hid (∀ (i : Nat) (wr : World), i < n → Below w.heap.size w wr → Calls Tryz.prog fn (#[.int .i64 (i : Int)] ++ caps) wr (TestP k i wr))) :
    Calls Tryz.prog 203 #[.int .i64 (n : Int), .func (.func fn) #[] caps] w (SearchP k w) := by
  go_enter Tryz.func203, Tryz.ntmps203
  go_wp2
  go_loopw [5, 6] (fun i j wr => ∃ a b : Nat, a ≤ k ∧ k ≤ b ∧ b ≤ n ∧ i = .int .i64 (a : Int) ∧ j = .int .i64 (b : Int) ∧ Below w.heap.size w wr) (fun i j _ => (intOf j).toNat - (intOf i).toNat)
  case atStart => exact ⟨0, n, Nat.zero_le _, hk, Nat.le_refl _, rfl, rfl, Below.refl _ _⟩
  case round =>
    obtain ⟨a, b, ha, hb, hbn, rfl, rfl, B⟩ := hrel
    by_cases hab : a < b
    · have hm1 : a ≤ (a + b) / 2 := by omega
      have hm2 : (a + b) / 2 < b := by omega
      have HM := hid (show (((a : Int) + (b : Int)) / 2) = (((a + b) / 2 : Nat) : Int) from by omega)
      generalize (a + b) / 2 = m at *
      go_wp2_with fail
      rw [HM.out]
      have hc := hf.out m wr (by omega) B
      by_cases hkm : k ≤ m
      all_goals
        refine hc.mono ?_
        rintro e W2 ⟨rfl, b2⟩
        have B2 := bel_gbn B B.size (gb_below b2)
        clear hc b2 B
        first | rw [decide_eq_true hkm] | rw [decide_eq_false hkm]
        go_wp2
        go_roundw
        case rel => first | exact ⟨a, m, by omega, by omega, by omega, rfl, rfl, B2⟩ | exact ⟨m + 1, b, by omega, by omega, by omega, by go_num, rfl, B2⟩
        case measure => simp [intOf]; omega
    · obtain rfl : a = k := by omega
      go_wp2
      go_ret
      exact ⟨rfl, B⟩
theorem drew_below {w w' : World} (h : Drew w w') : Below w.heap.size w w' := gb_below_none (h.gb none)
theorem before_test (a : Option Addr) (len cap : Nat) (z : List (Int × Int)) (t : Int) (i bl bt : Nat) (w : World) (hz : Lst w a len cap z) (hi : i < len)
    (cl : w.cell? ⟨bl, 0, none⟩ = some (.slice a len cap)) (ct : w.cell? ⟨bt, 0, none⟩ = some (.int .i64 t)) :
    Calls Tryz.prog 206 #[.int .i64 (i : Int), .pointer (some ⟨bl, 0, none⟩), .pointer (some ⟨bt, 0, none⟩)] w fun e w' => e = .returned (.bool (decide (t ≤ tOf z i))) ∧ Below w.heap.size w w' := by
  obtain ⟨p, o, rfl, hp, x0, x1⟩ := hz.1.at_ i hi
  have hi0 : (0 : Int) ≤ (i : Int) := by omega
  have hi1 : (i : Int) < (len : Int) := by omega
  have hl := hz.1.2.2.1
  clear hz
  go_enter Tryz.func206, Tryz.ntmps206
  go_wp2_with fail
  go_quiet (fail)
  go_wp2
  go_ret
  exact ⟨ret_bool rfl, drew_below ⟨nq, rfl⟩⟩
theorem upTo_test (a : Option Addr) (len cap : Nat) (z : List (Int × Int)) (t : Int) (i bl bt : Nat) (w : World) (hz : Lst w a len cap z) (hi : i < len)
    (cl : w.cell? ⟨bl, 0, none⟩ = some (.slice a len cap)) (ct : w.cell? ⟨bt, 0, none⟩ = some (.int .i64 t)) :
    Calls Tryz.prog 264 #[.int .i64 (i : Int), .pointer (some ⟨bl, 0, none⟩), .pointer (some ⟨bt, 0, none⟩)] w fun e w' => e = .returned (.bool (decide (t < tOf z i))) ∧ Below w.heap.size w w' := by
  obtain ⟨p, o, rfl, hp, x0, x1⟩ := hz.1.at_ i hi
  have hi0 : (0 : Int) ≤ (i : Int) := by omega
  have hi1 : (i : Int) < (len : Int) := by omega
  have hl := hz.1.2.2.1
  clear hz
  go_enter Tryz.func264, Tryz.ntmps264
  go_wp2_with fail
  go_quiet (fail)
  go_wp2
  go_ret
  exact ⟨ret_bool rfl, drew_below ⟨nq, rfl⟩⟩
theorem before_any (a : Option Addr) (len cap : Nat) (z : List (Int × Int)) (t : Int) (w : World) (hz : Lst w a len cap z) (hr : Rising z) (hl : len ≤ 1048576) :
    Calls Tryz.prog 137 #[.slice a len cap, .int .i64 t] w (SearchP (bef z t) w) := by
  have HL := hid hz.len
  have hle : bef z t ≤ len := by rw [← HL.out]; exact bef_le z t
  have HI := hid (bef_iff hr t)
  have hz2 := hz.keepN (World.grownBy_alloc w (.cells #[.slice a len cap] 52) none)
  have hz3 := hz2.keepN (World.grownBy_alloc _ (.cells #[.int .i64 t] 3) none)
  have B1 := ((Below.refl w.heap.size w).alloc (Nat.le_refl _) (.cells #[.slice a len cap] 52)).alloc (by simp) (.cells #[.int .i64 t] 3)
  have cl : ((w.alloc (.cells #[.slice a len cap] 52)).alloc (.cells #[.int .i64 t] 3)).cell? ⟨w.heap.size, 0, none⟩ = some (.slice a len cap) := by rw [cell_of (heap_old (heap_new w _))]; rfl
  have ct : ((w.alloc (.cells #[.slice a len cap] 52)).alloc (.cells #[.int .i64 t] 3)).cell? ⟨w.heap.size + 1, 0, none⟩ = some (.int .i64 t) := by
    have h := heap_new (w.alloc (.cells #[.slice a len cap] 52)) (.cells #[.int .i64 t] 3)
    rw [show (w.alloc (.cells #[.slice a len cap] 52)).heap.size = w.heap.size + 1 from by simp] at h
    rw [cell_of h]; rfl
  have HSZ : w.heap.size + 1 < ((w.alloc (.cells #[.slice a len cap] 52)).alloc (.cells #[.int .i64 t] 3)).heap.size := by simp
  clear hz hz2 hr
  generalize hW : ((w.alloc (.cells #[.slice a len cap] 52)).alloc (.cells #[.int .i64 t] 3)) = W1 at *
  have HC := hid cl
  have HT := hid ct
  have HW := hid hW
  have HZ := hid hz3
  clear cl ct hW hz3
  go_enter Tryz.func137, Tryz.ntmps137
  go_wp2_with fail
  rw [HW.out]
  refine (search_any len (bef z t) 206 _ W1 (by omega) hle (enters_of Tryz.func206 (by kernel_rfl) rfl) ?_).mono ?_
  · intro i wr hi hb
    refine (before_test a len cap z t i w.heap.size (w.heap.size + 1) wr (HZ.out.keepB hb) hi (by rw [hb.cell (by simp; omega)]; exact HC.out) (by rw [hb.cell HSZ]; exact HT.out)).mono ?_
    rintro e w' ⟨rfl, b⟩
    refine ⟨ret_bool ?_, b⟩
    have := HI.out i (by rw [HL.out]; exact hi)
    apply decide_eq_decide.2
    omega
  · rintro e w' ⟨rfl, b⟩
    have B2 := B1.trans (b.mono (by omega))
    clear B1 b
    go_wp2
    go_ret
    exact ⟨rfl, B2⟩
theorem upTo_any (a : Option Addr) (len cap : Nat) (z : List (Int × Int)) (t : Int) (w : World) (hz : Lst w a len cap z) (hr : Rising z) (hl : len ≤ 1048576) :
    Calls Tryz.prog 210 #[.slice a len cap, .int .i64 t] w (SearchP (upt z t) w) := by
  have HL := hid hz.len
  have hle : upt z t ≤ len := by rw [← HL.out]; exact upt_le z t
  have HI := hid (upt_iff hr t)
  have hz2 := hz.keepN (World.grownBy_alloc w (.cells #[.slice a len cap] 52) none)
  have hz3 := hz2.keepN (World.grownBy_alloc _ (.cells #[.int .i64 t] 3) none)
  have B1 := ((Below.refl w.heap.size w).alloc (Nat.le_refl _) (.cells #[.slice a len cap] 52)).alloc (by simp) (.cells #[.int .i64 t] 3)
  have cl : ((w.alloc (.cells #[.slice a len cap] 52)).alloc (.cells #[.int .i64 t] 3)).cell? ⟨w.heap.size, 0, none⟩ = some (.slice a len cap) := by rw [cell_of (heap_old (heap_new w _))]; rfl
  have ct : ((w.alloc (.cells #[.slice a len cap] 52)).alloc (.cells #[.int .i64 t] 3)).cell? ⟨w.heap.size + 1, 0, none⟩ = some (.int .i64 t) := by
    have h := heap_new (w.alloc (.cells #[.slice a len cap] 52)) (.cells #[.int .i64 t] 3)
    rw [show (w.alloc (.cells #[.slice a len cap] 52)).heap.size = w.heap.size + 1 from by simp] at h
    rw [cell_of h]; rfl
  have HSZ : w.heap.size + 1 < ((w.alloc (.cells #[.slice a len cap] 52)).alloc (.cells #[.int .i64 t] 3)).heap.size := by simp
  clear hz hz2 hr
  generalize hW : ((w.alloc (.cells #[.slice a len cap] 52)).alloc (.cells #[.int .i64 t] 3)) = W1 at *
  have HC := hid cl
  have HT := hid ct
  have HW := hid hW
  have HZ := hid hz3
  clear cl ct hW hz3
  go_enter Tryz.func210, Tryz.ntmps210
  go_wp2_with fail
  rw [HW.out]
  refine (search_any len (upt z t) 264 _ W1 (by omega) hle (enters_of Tryz.func264 (by kernel_rfl) rfl) ?_).mono ?_
  · intro i wr hi hb
    refine (upTo_test a len cap z t i w.heap.size (w.heap.size + 1) wr (HZ.out.keepB hb) hi (by rw [hb.cell (by simp; omega)]; exact HC.out) (by rw [hb.cell HSZ]; exact HT.out)).mono ?_
    rintro e w' ⟨rfl, b⟩
    refine ⟨ret_bool ?_, b⟩
    have := HI.out i (by rw [HL.out]; exact hi)
    apply decide_eq_decide.2
    omega
  · rintro e w' ⟨rfl, b⟩
    have B2 := B1.trans (b.mono (by omega))
    clear B1 b
    go_wp2
    go_ret
    exact ⟨rfl, B2⟩
def tookE (sz : Int) (l : List (Int × Int)) : Int := if 8 * sz < (bitsZ l : Int) then 2 else 0
def tookL (sz : Int) (z l : List (Int × Int)) : List (Int × Int) := if 8 * sz < (bitsZ l : Int) then z else l
def ErrP (ty : TypeId) (b : Nat) (sz : Int) (err : Int) (l : List (Int × Int)) (w : World) (e : Ending) (w' : World) : Prop :=
  e = .returned (.int .i64 err) ∧ CAt ty w' b sz l ∧ w.grownBy w' (some b)
theorem take_ok (b : Nat) (sz : Int) (z l : List (Int × Int)) (a : Option Addr) (cap : Nat) (w : World) (h : PCk w b sz z) (hs : 1 ≤ sz) (hs2 : sz ≤ 4096) (hl : Lst w a l.length cap l) (hn : l.length ≤ 1048576) :
    Calls Tryz.prog 284 #[.pointer (some ⟨b, 0, none⟩), .slice a l.length cap] w (ErrP 202 b sz (tookE sz l) (tookL sz z l) w) := by
  obtain ⟨a0, cap0, hc, hl0⟩ := h
  have HC := hid hc
  have HL := hid hl
  have HL0 := hid hl0
  have hb := heap_lt hc
  have c0 : w.cell? ⟨b, 0, none⟩ = some (.int .i64 sz) := by rw [cell_of hc]; rfl
  have hle := bitsZ_le l
  have HE := hid (show tookE sz l = if 8 * sz < (bitsZ l : Int) then 2 else 0 from rfl)
  have HT := hid (show tookL sz z l = if 8 * sz < (bitsZ l : Int) then z else l from rfl)
  obtain ⟨len, hlen⟩ : ∃ len, l.length = len := ⟨_, rfl⟩
  rw [hlen] at hl hn hle HL ⊢
  have HN := hid hlen
  clear hc hl hl0 hlen
  have h8 : IntKind.i64.wrap (8 * sz) = 8 * sz := IntWalk.i64_in _ ⟨by omega, by omega⟩
  have HLD : Hid (Lst w.drew a len cap l) := HL
  by_cases hf : 8 * sz < (bitsZ l : Int)
  all_goals
    have HF := hid hf
    first | have hd := decide_eq_true hf | have hd := decide_eq_false hf
    go_enter Tryz.func284, Tryz.ntmps284
    go_wp2_with fail
    go_region_held3 (fun w' => w'.cell? ⟨b, 0, none⟩ = some (.int .i64 sz))
      (first
        | go_keep
        | ((rw [b6.cell (by simpa using hb)]; assumption)))
      (first
        | (go_at_call 265
           (with_reducible refine (bits_lst a len cap l _ HLD.out hn).mono ?_)
           rintro e W6 ⟨rfl, b6⟩))
    have g6 : w.grownBy W6 none := gb_trans (Drew.gb (w := w) (w' := w.drew) ⟨1, rfl⟩ none) (gb_below b6)
    have hc6 : W6.heap[b]? = some (.cells #[.int .i64 sz, .slice a0 z.length cap0] 202 (0, 0)) := by rw [g6.block b hb (by simp)]; exact HC.out
    have c1 : W6.cell? ⟨b, 1, none⟩ = some (.slice a0 z.length cap0) := by rw [cell_of hc6]; rfl
    have f1 := frozen_of (o := 1) hc6
    have HC6 := hid hc6
    clear c0 hc6 b6 h8
    go_wp2
    go_ret
    rw [HE.out, HT.out]
    first
      | (rw [if_pos HF.out, if_pos HF.out]; exact ⟨rfl, ⟨a0, cap0, HC6.out, HL0.out.keepN g6⟩, gb_none g6 _⟩)
      | (rw [if_neg (Int.not_lt.2 HF.out), if_neg (Int.not_lt.2 HF.out)]
         refine ⟨rfl, ?_, gb_set (gb_none g6 _) _ _⟩
         have hlst := HL.out.keepN g6
         rw [← HN.out] at hlst ⊢
         exact CAt.set HC6.out hlst (by decide))
def meetB (x y : List (Int × Int)) : Bool := decide (0 < x.length) && decide (0 < y.length) && decide (tOf y 0 ≤ tOf x (x.length - 1))
theorem meetB_iff (x y : List (Int × Int)) : meetB x y = true ↔ meets x y := by simp [meetB, meets, and_assoc]
def BoolP (r : Bool) (w : World) (e : Ending) (w' : World) : Prop := e = .returned (.bool r) ∧ Below w.heap.size w w'
theorem follows_ok (bo bc : Nat) (so sc : Int) (zo zc : List (Int × Int)) (w : World) (ho : PCk w bo so zo) (hc : PCk w bc sc zc) (hso : 1 ≤ so) (hsc : 1 ≤ sc) (hno : zo.length ≤ 1048576) (hnc : zc.length ≤ 1048576) :
    Calls Tryz.prog 283 #[.pointer (some ⟨bo, 0, none⟩), .pointer (some ⟨bc, 0, none⟩)] w (BoolP (!meetB zc zo) w) := by
  have HO := hid ho
  have HC := hid hc
  have HM := hid (show meetB zc zo = (decide (0 < zc.length) && decide (0 < zo.length) && decide (tOf zo 0 ≤ tOf zc (zc.length - 1))) from rfl)
  clear ho hc
  obtain ⟨x, hx⟩ : ∃ x, decide (0 < zc.length) = x := ⟨_, rfl⟩
  obtain ⟨y, hy⟩ : ∃ y, decide (0 < zo.length) = y := ⟨_, rfl⟩
  rw [hx, hy] at HM
  have HX := hid hx
  have HY := hid hy
  clear hx hy
  go_enter Tryz.func283, Tryz.ntmps283
  go_wp2_with fail
  refine (last_ok bc sc zc _ HC.out hsc hnc).mono ?_
  rintro e W1 ⟨rfl, b1⟩
  rw [HX.out]
  have HO1 := hid (HO.out.keepB b1)
  clear HO HC
  generalize tOf zc (zc.length - 1) = T1 at *
  generalize vOf zc (zc.length - 1) = V1 at *
  go_wp2_with fail
  have B2 := b1.alloc b1.size (.cells #[.int .i64 T1, .int .i64 V1] 27)
  have hn2 := hid (heap_new W1 (.cells #[.int .i64 T1, .int .i64 V1] 27))
  have HO2 := hid (HO1.out.keepN (World.grownBy_alloc W1 (.cells #[.int .i64 T1, .int .i64 V1] 27) none))
  have s2 : W1.heap.size < (W1.alloc (.cells #[.int .i64 T1, .int .i64 V1] 27)).heap.size := by simp
  have s1 := b1.size
  clear b1 HO1
  generalize W1.alloc (.cells #[.int .i64 T1, .int .i64 V1] 27) = W2 at *
  generalize W1.heap.size = k1 at *
  refine (first_ok bo so zo _ HO2.out hso hno).mono ?_
  rintro e W3 ⟨rfl, b3⟩
  rw [HY.out]
  have B3 := B2.trans (b3.mono (Nat.le_trans s1 (Nat.le_of_lt s2)))
  have s3 := b3.size
  have d0 : W3.cell? ⟨k1, 0, none⟩ = some (.int .i64 T1) := by rw [b3.cell s2, cell_of hn2.out]; rfl
  have d1 : W3.cell? ⟨k1, 1, none⟩ = some (.int .i64 V1) := by rw [b3.cell s2, cell_of hn2.out]; rfl
  clear b3 B2 HO2 hn2
  generalize tOf zo 0 = T2 at *
  generalize vOf zo 0 = V2 at *
  have hk1 : k1 < W3.heap.size := by omega
  have hw3 : w.heap.size ≤ W3.heap.size := by omega
  clear s1 s2 s3
  have B4 := B3.alloc hw3 (.cells #[.int .i64 T2, .int .i64 V2] 27)
  rcases x with _ | _
  · go_wp2
    go_ret
    exact ⟨ret_bool (by rw [HM.out]; rfl), B4⟩
  · rcases y with _ | _
    · go_wp2
      go_ret
      exact ⟨ret_bool (by rw [HM.out]; rfl), B4⟩
    · go_wp2
      go_ret
      refine ⟨ret_bool ?_, B4⟩
      rw [HM.out]
      simp
      by_cases h : T2 ≤ T1
      · rw [decide_eq_true h, decide_eq_false (by omega)]; rfl
      · rw [decide_eq_false h, decide_eq_true (by omega)]; rfl
theorem parts_two {w : World} {a1 a2 : Option Addr} {k m c1 c2 : Nat} {x y : List (Int × Int)} (h1 : Lst w a1 k c1 x) (h2 : Lst w a2 m c2 y) :
    PartsAt (w.alloc (.cells #[.slice a1 k c1, .slice a2 m c2] 52)) w.heap.size
      [x, y] (fun i => if i = 0 then a1 else a2) (fun i => if i = 0 then c1 else c2) := by
  obtain rfl := h1.len
  obtain rfl := h2.len
  have hn := heap_new w (.cells #[.slice a1 x.length c1, .slice a2 y.length c2] 52)
  have h1' := h1.keepN (World.grownBy_alloc w (.cells #[.slice a1 x.length c1, .slice a2 y.length c2] 52) none)
  have h2' := h2.keepN (World.grownBy_alloc w (.cells #[.slice a1 x.length c1, .slice a2 y.length c2] 52) none)
  intro i hi
  rcases (show i = 0 ∨ i = 1 by simp at hi; omega) with rfl | rfl
  · exact ⟨by rw [cell_of hn]; rfl, h1'⟩
  · exact ⟨by rw [cell_of hn]; rfl, h2'⟩
theorem drop_ok (b : Nat) (sz : Int) (z : List (Int × Int)) (x y : Int) (w : World) (h : PCk w b sz z) (hs : 1 ≤ sz) (hr : Rising z) (hn : z.length ≤ 1048576) :
    Calls Tryz.prog 142 #[.pointer (some ⟨b, 0, none⟩), .int .i64 x, .int .i64 y] w (ErrP 202 b sz (dropN z x y : Int) (dropL z x y) w) := by
  have hb := h.lt
  have HW0 := hid h
  obtain ⟨a, cap, hc0, hl0⟩ := h
  have HC := hid hc0
  have HL := hid hl0
  have HR := hid hr
  have hk := bef_le z x
  have hu := upt_le z y
  have HD := hid (show dropL z x y = if upt z y ≤ bef z x then z else z.take (bef z x) ++ z.drop (upt z y) from rfl)
  have HN := hid (show dropN z x y = upt z y - bef z x from rfl)
  obtain ⟨a1, hs1, LA⟩ := lst_to hl0 (bef z x) hk
  obtain ⟨a2, hs2, LB⟩ := lst_from hl0 (upt z y) hu
  have HLA := hid LA
  have HLB := hid LB
  have HS1 := hid hs1
  have HS2 := hid hs2
  clear hc0 hl0 LA LB hr hs1 hs2
  by_cases hle : upt z y ≤ bef z x
  all_goals
    have HLE := hid hle
    go_enter Tryz.func142, Tryz.ntmps142
    go_wp2_with fail
    refine (list_ok b sz a _ cap _ HC.out hs).mono ?_
    rintro e w' ⟨rfl, rfl⟩
    go_wp2_with fail
    refine (before_any a _ cap z x _ HL.out HR.out hn).mono ?_
    rintro e W1 ⟨rfl, b1⟩
    go_wp2_with fail
    refine (upTo_any a _ cap z y _ (HL.out.keepB b1) HR.out hn).mono ?_
    rintro e W2 ⟨rfl, b2⟩
    have B2 := bel_gbn b1 b1.size (gb_below b2)
    clear b1 b2 W1
  · go_wp2
    go_ret
    exact ⟨by rw [HN.out]; rw [Nat.sub_eq_zero_of_le HLE.out]; rfl, by rw [HD.out, if_pos HLE.out]; exact HW0.out.keepB B2, gb_below B2⟩
  · have hs1 := HS1.out
    have hs2 := HS2.out
    have hc2 : W2.heap[b]? = _ := (B2.block b hb).trans HC.out
    have c1 : W2.cell? ⟨b, 1, none⟩ = some (.slice a z.length cap) := by rw [cell_of hc2]; rfl
    have f1 := frozen_of (o := 1) hc2
    have HC2 := hid hc2
    have HPT0 := hid (parts_two (HLA.out.keepB B2) (HLB.out.keepB B2))
    have HPT : Hid (PartsAt (W2.alloc (.cells #[.slice a1 (bef z x) cap, .slice a2 (z.length - upt z y) (cap - upt z y)] 52)).drew W2.heap.size [z.take (bef z x), z.drop (upt z y)] (fun i => if i = 0 then a1 else a2) (fun i => if i = 0 then cap else cap - upt z y)) := HPT0
    clear HPT0
    have hA : (W2.alloc (.cells #[.slice a1 (bef z x) cap, .slice a2 (z.length - upt z y) (cap - upt z y)] 52)).heap[b]? = _ := heap_old hc2
    have HcA := hid ((cell_of (o := 1) hA).trans (by rfl : _ = some (Value.slice a z.length cap)))
    have HfA := hid (frozen_of (o := 1) hA)
    have hs2' := B2.size
    clear hc2 hA
    go_wp2_with fail
    go_region_held3 (fun _ => True)
      (first
        | trivial
        | exact True.intro)
      (first
        | (go_at_call 199
           (refine (laid_any W2.heap.size _ _ _ 2 _ rfl HPT.out (by simp) (by simp; omega) (by omega)).mono ?_)
           rintro e W6 ⟨a6, cap6, rfl, hl6, b6⟩
           have c6 : W6.cell? ⟨b, 1, none⟩ = some (.slice a z.length cap) := (b6.cell (p := ⟨b, 1, none⟩) (by simp; omega)).trans HcA.out
           have f6 : W6.frozen? ⟨b, 1, none⟩ = false := (b6.frozen (p := ⟨b, 1, none⟩) (by simp; omega)).trans HfA.out))
    have g6 : W2.grownBy W6 none := gb_trans (gb_drew (gb_alloc (gb_refl W2 none) (.cells #[.slice a1 (bef z x) cap, .slice a2 (z.length - upt z y) (cap - upt z y)] 52))) (gb_below b6)
    have hc6 : W6.heap[b]? = _ := (g6.block b (by omega) (by simp)).trans HC2.out
    have B6 := bel_gbn B2 hs2' g6
    have HE := hid (show [z.take (bef z x), z.drop (upt z y)].flatten = dropL z x y from by rw [HD.out, if_neg (by have := HLE.out; omega)]; simp)
    have hl7 := hl6
    rw [HE.out] at hl7
    have HLEN := hid (show (dropL z x y).length = bef z x + (z.length - upt z y) from by rw [← HE.out]; simp; omega)
    have HC6 := hid hc6
    have HL7 := hid hl7
    clear hl6 hl7 hc6 b6 c6 f6 hs1 hs2 HPT HcA HfA c1 f1 g6
    go_wp2
    go_ret
    refine ⟨ret_int (by rw [HN.out]; have := HLE.out; omega), ?_, gb_set (gb_below B6) _ _⟩
    rw [← HLEN.out]
    exact CAt.set HC6.out HL7.out (by decide)
end Go.Proofs.YtmifpfojhlmbkaaGreat
