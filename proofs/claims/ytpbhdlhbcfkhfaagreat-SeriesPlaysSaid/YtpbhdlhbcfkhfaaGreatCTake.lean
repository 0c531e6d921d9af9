/-
  Contracts of package chunk: take, Get, follows.
  Condition: at most 2^20 samples.
-/
import Derived.Test.YtpbhdlhbcfkhfaaGreatCEnds
import Derived.Test.YtpbhdlhbcfkhfaaGreatCFind
import Derived.Deep.RegionHeld3
import Derived.IntWalk
namespace Go.Proofs.YtpbhdlhbcfkhfaaGreat
open Go.RowKit
set_option linter.unusedVariables false
set_option linter.unusedSimpArgs false

/-- What a chunk has behind a try to take a list. -/
def tookE (sz : Int) (l : List (Int × Int)) : Int := if 8 * sz < (bitsZ l : Int) then 2 else 0
def tookL (sz : Int) (z l : List (Int × Int)) : List (Int × Int) := if 8 * sz < (bitsZ l : Int) then z else l
/-- An error, and what the chunk is then. -/
def ErrP (ty : TypeId) (b : Nat) (sz : Int) (err : Int) (l : List (Int × Int)) (w : World) (e : Ending) (w' : World) : Prop :=
  e = .returned (.int .i64 err) ∧ CAt ty w' b sz l ∧ w.grownBy w' (some b)

set_option maxHeartbeats 1000000 in
theorem take_ok (b : Nat) (sz : Int) (z l : List (Int × Int)) (a : Option Addr) (cap : Nat) (w : World) (h : PCk w b sz z) (hs : 1 ≤ sz) (hs2 : sz ≤ 4096) (hl : Lst w a l.length cap l) (hn : l.length ≤ 1048576) :
    Calls Tryz.prog 87 #[.pointer (some ⟨b, 0, none⟩), .slice a l.length cap] w (ErrP 76 b sz (tookE sz l) (tookL sz z l) w) := by
  obtain ⟨a0, cap0, hc, hl0⟩ := h
  have HC := Lib.hid hc
  have HL := Lib.hid hl
  have HL0 := Lib.hid hl0
  have hb := heap_lt hc
  have c0 : w.cell? ⟨b, 0, none⟩ = some (.int .i64 sz) := by rw [cell_of hc]; rfl
  have hle := bitsZ_le l
  have HE := Lib.hid (show tookE sz l = if 8 * sz < (bitsZ l : Int) then 2 else 0 from rfl)
  have HT := Lib.hid (show tookL sz z l = if 8 * sz < (bitsZ l : Int) then z else l from rfl)
  obtain ⟨len, hlen⟩ : ∃ len, l.length = len := ⟨_, rfl⟩
  rw [hlen] at hl hn hle HL ⊢
  have HN := Lib.hid hlen
  clear hc hl hl0 hlen
  have h8 : IntKind.i64.wrap (8 * sz) = 8 * sz := IntWalk.i64_in _ ⟨by omega, by omega⟩
  have HLD : Hid (Lst w.drew a len cap l) := HL
  by_cases hf : 8 * sz < (bitsZ l : Int)
  all_goals
    have HF := Lib.hid hf
    first | have hd := decide_eq_true hf | have hd := decide_eq_false hf
    go_enter Tryz.func87, Tryz.ntmps87
    go_wp2_with fail
    go_region_held3 (fun w' => w'.cell? ⟨b, 0, none⟩ = some (.int .i64 sz))
      (first
        | go_keep
        | ((rw [b6.cell (by simpa using hb)]; assumption)))
      (first
        | (go_at_call 76
           (with_reducible refine (bits_lst a len cap l _ HLD.out hn).mono ?_)
           rintro e W6 ⟨rfl, b6⟩))
    have g6 : w.grownBy W6 none := gb_trans (Drew.gb (w := w) (w' := w.drew) ⟨1, rfl⟩ none) (gb_below b6)
    have hc6 : W6.heap[b]? = some (.cells #[.int .i64 sz, .slice a0 z.length cap0] 76 (0, 0)) := by rw [g6.block b hb (by simp)]; exact HC.out
    have c1 : W6.cell? ⟨b, 1, none⟩ = some (.slice a0 z.length cap0) := by rw [cell_of hc6]; rfl
    have f1 := frozen_of (o := 1) hc6
    have HC6 := Lib.hid hc6
    clear c0 hc6 b6 h8
    go_wp2
    go_ret
    rw [HE.out, HT.out]
    first
      | (rw [if_pos HF.out, if_pos HF.out]; exact ⟨rfl, ⟨a0, cap0, HC6.out, HL0.out.keepN g6⟩, gb_none g6 _⟩)
      | (rw [if_neg (Int.not_lt.2 HF.out), if_neg (Int.not_lt.2 HF.out)]
         refine ⟨rfl, ?_, gb_set (gb_none g6 _) _ _⟩
         have hlst := HL.out.keepN g6
         rw [← HN.out] at hlst ⊢
         exact CAt.set HC6.out hlst (by decide))

def PairP (x : Int × Int) (w : World) (e : Ending) (w' : World) : Prop := e = .returned (two x) ∧ Below w.heap.size w w'

set_option maxHeartbeats 1000000 in
theorem get_ok4 (b : Nat) (sz : Int) (z : List (Int × Int)) (t : Int) (w : World) (h : PCk w b sz z) (hs : 1 ≤ sz) (hr : Rising z) (hn : z.length ≤ 1048576) :
    Calls Tryz.prog 36 #[.pointer (some ⟨b, 0, none⟩), .int .i64 t] w (PairP (getL z t) w) := by
  obtain ⟨a, cap, hc, hl⟩ := h
  have HC := Lib.hid hc
  have HL := Lib.hid hl
  have hb := heap_lt hc
  have c1 : w.cell? ⟨b, 1, none⟩ = some (.slice a z.length cap) := by rw [cell_of hc]; rfl
  have HR := Lib.hid hr
  have hle := bef_le z t
  have HAT := Lib.hid (at_time hr t)
  have HG := Lib.hid (show getL z t = if bef z t < upt z t then (vOf z (bef z t), 0) else (0, 5) from rfl)
  clear hc hl hr
  by_cases h1 : bef z t = z.length
  · have HK := Lib.hid h1
    have HNO := Lib.hid (show getL z t = (0, 5) from by rw [HG.out, if_neg (fun e => by have := HAT.out.1 e; omega)])
    have hq : (((bef z t : Nat) : Int) == ((z.length : Nat) : Int)) = true := by simp [h1]
    clear h1 hle
    go_enter Tryz.func36, Tryz.ntmps36
    go_wp2_with fail
    refine (isNone_no b sz _ _ HC.out hs).mono ?_
    rintro e w' ⟨rfl, rfl⟩
    go_wp2_with fail
    refine (before_any a _ cap z t _ HL.out HR.out hn).mono ?_
    rintro e w' ⟨rfl, b1⟩
    rw [← b1.cell hb] at c1
    generalize bef z t = k at *
    go_wp2
    go_ret2
    exact ⟨by rw [HNO.out]; rfl, b1⟩
  · have h1' : bef z t < z.length := by omega
    have hq : (((bef z t : Nat) : Int) == ((z.length : Nat) : Int)) = false := by rw [beq_eq_false_iff_ne]; omega
    obtain ⟨p, o, rfl, hp, x0, x1⟩ := HL.out.1.at_ (bef z t) h1'
    by_cases h2 : tOf z (bef z t) = t
    · have HV := Lib.hid (show getL z t = (vOf z (bef z t), 0) from by rw [HG.out, if_pos (HAT.out.2 ⟨h1', h2⟩)])
      have hq2 : (t != t) = false := by simp
      rw [h2] at x0
      clear h1 hle h2
      go_enter Tryz.func36, Tryz.ntmps36
      go_wp2_with fail
      refine (isNone_no b sz _ _ HC.out hs).mono ?_
      rintro e w' ⟨rfl, rfl⟩
      go_wp2_with fail
      refine (before_any _ _ cap z t _ HL.out HR.out hn).mono ?_
      rintro e w' ⟨rfl, b1⟩
      rw [← b1.cell hb] at c1
      rw [← b1.cell hp] at x0 x1
      generalize vOf z (bef z t) = v at *
      generalize bef z t = k at *
      go_wp2
      go_ret2
      exact ⟨by rw [HV.out]; rfl, b1⟩
    · have HNO := Lib.hid (show getL z t = (0, 5) from by rw [HG.out, if_neg (fun e => h2 (HAT.out.1 e).2)])
      have hq2 : (tOf z (bef z t) != t) = true := by rw [bne_iff_ne]; exact h2
      clear h1 hle h2
      go_enter Tryz.func36, Tryz.ntmps36
      go_wp2_with fail
      refine (isNone_no b sz _ _ HC.out hs).mono ?_
      rintro e w' ⟨rfl, rfl⟩
      go_wp2_with fail
      refine (before_any _ _ cap z t _ HL.out HR.out hn).mono ?_
      rintro e w' ⟨rfl, b1⟩
      rw [← b1.cell hb] at c1
      rw [← b1.cell hp] at x0 x1
      generalize tOf z (bef z t) = tt at *
      generalize bef z t = k at *
      go_wp2
      go_ret2
      exact ⟨by rw [HNO.out]; rfl, b1⟩

/-- A sample of the second list has a time that is not above all of the first one's. -/
def meetB (x y : List (Int × Int)) : Bool := decide (0 < x.length) && decide (0 < y.length) && decide (tOf y 0 ≤ tOf x (x.length - 1))
theorem meetB_iff (x y : List (Int × Int)) : meetB x y = true ↔ meets x y := by simp [meetB, meets, and_assoc]
def BoolP (r : Bool) (w : World) (e : Ending) (w' : World) : Prop := e = .returned (.bool r) ∧ Below w.heap.size w w'

set_option maxHeartbeats 1000000 in
theorem follows_ok (bo bc : Nat) (so sc : Int) (zo zc : List (Int × Int)) (w : World) (ho : PCk w bo so zo) (hc : PCk w bc sc zc) (hso : 1 ≤ so) (hsc : 1 ≤ sc) (hno : zo.length ≤ 1048576) (hnc : zc.length ≤ 1048576) :
    Calls Tryz.prog 102 #[.pointer (some ⟨bo, 0, none⟩), .pointer (some ⟨bc, 0, none⟩)] w (BoolP (!meetB zc zo) w) := by
  have HO := Lib.hid ho
  have HC := Lib.hid hc
  have HM := Lib.hid (show meetB zc zo = (decide (0 < zc.length) && decide (0 < zo.length) && decide (tOf zo 0 ≤ tOf zc (zc.length - 1))) from rfl)
  clear ho hc
  obtain ⟨x, hx⟩ : ∃ x, decide (0 < zc.length) = x := ⟨_, rfl⟩
  obtain ⟨y, hy⟩ : ∃ y, decide (0 < zo.length) = y := ⟨_, rfl⟩
  rw [hx, hy] at HM
  have HX := Lib.hid hx
  have HY := Lib.hid hy
  clear hx hy
  go_enter Tryz.func102, Tryz.ntmps102
  go_wp2_with fail
  refine (last_ok bc sc zc _ HC.out hsc hnc).mono ?_
  rintro e W1 ⟨rfl, b1⟩
  rw [HX.out]
  have HO1 := Lib.hid (HO.out.keepB b1)
  clear HO HC
  generalize tOf zc (zc.length - 1) = T1 at *
  generalize vOf zc (zc.length - 1) = V1 at *
  go_wp2_with fail
  have B2 := b1.alloc b1.size (.cells #[.int .i64 T1, .int .i64 V1] 33)
  have hn2 := Lib.hid (heap_new W1 (.cells #[.int .i64 T1, .int .i64 V1] 33))
  have HO2 := Lib.hid (HO1.out.keepN (World.grownBy_alloc W1 (.cells #[.int .i64 T1, .int .i64 V1] 33) none))
  have s2 : W1.heap.size < (W1.alloc (.cells #[.int .i64 T1, .int .i64 V1] 33)).heap.size := by simp
  have s1 := b1.size
  clear b1 HO1
  generalize W1.alloc (.cells #[.int .i64 T1, .int .i64 V1] 33) = W2 at *
  generalize W1.heap.size = k1 at *
  refine (first_ok bo so zo _ HO2.out hso hno).mono ?_
  rintro e W3 ⟨rfl, b3⟩
  rw [HY.out]
  have B3 := B2.trans (b3.mono (Nat.le_trans s1 (Nat.le_of_lt s2)))
  have s3 := b3.size
  have d0 : W3.cell? ⟨k1, 0, none⟩ = some (.int .i64 T1) := by rw [b3.cell s2, cell_of hn2.out]; rfl
  have d1 : W3.cell? ⟨k1, 1, none⟩ = some (.int .i64 V1) := by rw [b3.cell s2, cell_of hn2.out]; rfl
  clear b3 B2 HO2 hn2
  generalize tOf zo 0 = T2 at *
  generalize vOf zo 0 = V2 at *
  have hk1 : k1 < W3.heap.size := by omega
  have hw3 : w.heap.size ≤ W3.heap.size := by omega
  clear s1 s2 s3
  have B4 := B3.alloc hw3 (.cells #[.int .i64 T2, .int .i64 V2] 33)
  rcases x with _ | _
  · go_wp2
    go_ret
    exact ⟨ret_bool (by rw [HM.out]; rfl), B4⟩
  · rcases y with _ | _
    · go_wp2
      go_ret
      exact ⟨ret_bool (by rw [HM.out]; rfl), B4⟩
    · go_wp2
      go_ret
      refine ⟨ret_bool ?_, B4⟩
      rw [HM.out]
      simp
      by_cases h : T2 ≤ T1
      · rw [decide_eq_true h, decide_eq_false (by omega)]; rfl
      · rw [decide_eq_false h, decide_eq_true (by omega)]; rfl

end Go.Proofs.YtpbhdlhbcfkhfaaGreat
