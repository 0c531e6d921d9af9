/-
  Contracts of package chunk: New, isNone, list, Len, Size, Used, All, First, Last.
  Condition: at most 2^20 samples.
-/
import Derived.Test.YtpbhdlhbcfkhfaaGreatCLaid
import Derived.Test.YtpbhdlhbcfkhfaaGreatDBits
namespace Go.Proofs.YtpbhdlhbcfkhfaaGreat
open Go.RowKit
set_option linter.unusedVariables false
set_option linter.unusedSimpArgs false

/-- The program's chunk; the document's. -/
def PCk (w : World) (b : Nat) (sz : Int) (z : List (Int × Int)) : Prop := CAt 76 w b sz z

theorem isNone_nil (w : World) : Calls Tryz.prog 53 #[.pointer none] w fun e w' => e = .returned (.bool true) ∧ w = w' := by
  go_enter Tryz.func53, Tryz.ntmps53
  go_wp2
  go_ret
  exact ⟨rfl, rfl⟩
theorem isNone_no (b : Nat) (sz : Int) (v : Value) (w : World) (hc : w.heap[b]? = some (.cells #[.int .i64 sz, v] 76 (0, 0))) (h : 1 ≤ sz) :
    Calls Tryz.prog 53 #[.pointer (some ⟨b, 0, none⟩)] w fun e w' => e = .returned (.bool false) ∧ w = w' := by
  have c0 : w.cell? ⟨b, 0, none⟩ = some (.int .i64 sz) := by rw [cell_of hc]; rfl
  have hne : (sz == 0) = false := by rw [beq_eq_false_iff_ne]; omega
  clear hc
  go_enter Tryz.func53, Tryz.ntmps53
  go_wp2
  go_ret
  exact ⟨rfl, rfl⟩
theorem isNone_zero (b : Nat) (v : Value) (w : World) (hc : w.heap[b]? = some (.cells #[.int .i64 0, v] 76 (0, 0))) :
    Calls Tryz.prog 53 #[.pointer (some ⟨b, 0, none⟩)] w fun e w' => e = .returned (.bool true) ∧ w = w' := by
  have c0 : w.cell? ⟨b, 0, none⟩ = some (.int .i64 0) := by rw [cell_of hc]; rfl
  clear hc
  go_enter Tryz.func53, Tryz.ntmps53
  go_wp2
  go_ret
  exact ⟨rfl, rfl⟩
theorem list_nil (w : World) : Calls Tryz.prog 55 #[.pointer none] w fun e w' => e = .returned (.slice none 0 0) ∧ w = w' := by
  go_enter Tryz.func55, Tryz.ntmps55
  go_wp2_with fail
  refine (isNone_nil _).mono ?_
  rintro e w' ⟨rfl, rfl⟩
  go_wp2
  go_ret
  exact ⟨rfl, rfl⟩
theorem list_zero (b : Nat) (v : Value) (w : World) (hc : w.heap[b]? = some (.cells #[.int .i64 0, v] 76 (0, 0))) :
    Calls Tryz.prog 55 #[.pointer (some ⟨b, 0, none⟩)] w fun e w' => e = .returned (.slice none 0 0) ∧ w = w' := by
  have HC := Lib.hid hc
  clear hc
  go_enter Tryz.func55, Tryz.ntmps55
  go_wp2_with fail
  refine (isNone_zero b v _ HC.out).mono ?_
  rintro e w' ⟨rfl, rfl⟩
  go_wp2
  go_ret
  exact ⟨rfl, rfl⟩
theorem list_ok (b : Nat) (sz : Int) (a : Option Addr) (len cap : Nat) (w : World) (hc : w.heap[b]? = some (.cells #[.int .i64 sz, .slice a len cap] 76 (0, 0))) (h : 1 ≤ sz) :
    Calls Tryz.prog 55 #[.pointer (some ⟨b, 0, none⟩)] w fun e w' => e = .returned (.slice a len cap) ∧ w = w' := by
  have c1 : w.cell? ⟨b, 1, none⟩ = some (.slice a len cap) := by rw [cell_of hc]; rfl
  have HC := Lib.hid hc
  clear hc
  go_enter Tryz.func55, Tryz.ntmps55
  go_wp2_with fail
  refine (isNone_no b sz _ _ HC.out h).mono ?_
  rintro e w' ⟨rfl, rfl⟩
  go_wp2
  go_ret
  exact ⟨rfl, rfl⟩

/-- A chunk that there is no room for, or one with nothing in it. -/
def NewP (ty : TypeId) (size : Int) (w : World) (e : Ending) (w' : World) : Prop :=
  (¬ (128 ≤ size ∧ size ≤ 4096) ∧ e = .returned (.tuple #[.pointer none, .int .i64 1]) ∧ w = w') ∨
  (128 ≤ size ∧ size ≤ 4096 ∧ e = .returned (.tuple #[.pointer (some ⟨w.heap.size, 0, none⟩), .int .i64 0]) ∧ CAt ty w' w.heap.size size [] ∧ Below w.heap.size w w' ∧ w'.heap.size = w.heap.size + 1)

set_option maxHeartbeats 400000 in
theorem cnew_any (size : Int) (w : World) : Calls Tryz.prog 18 #[.int .i64 size] w (NewP 76 size w) := by
  by_cases h1 : size < 128
  · go_enter Tryz.func18, Tryz.ntmps18
    go_wp2
    go_ret2
    exact .inl ⟨by omega, rfl, rfl⟩
  · by_cases h2 : 4096 < size
    · go_enter Tryz.func18, Tryz.ntmps18
      go_wp2
      go_ret2
      exact .inl ⟨by omega, rfl, rfl⟩
    · go_enter Tryz.func18, Tryz.ntmps18
      go_wp2
      go_ret2
      exact .inr ⟨by omega, by omega, rfl, CAt.new _ w size none 0 [] (Lst.nil w), (Below.refl _ w).alloc (Nat.le_refl _) _, by simp⟩

theorem len_ok (b : Nat) (sz : Int) (z : List (Int × Int)) (w : World) (h : PCk w b sz z) (hs : 1 ≤ sz) :
    Calls Tryz.prog 64 #[.pointer (some ⟨b, 0, none⟩)] w fun e w' => e = .returned (.int .i64 (z.length : Int)) ∧ w = w' := by
  obtain ⟨a, cap, hc, hl⟩ := h
  have HC := Lib.hid hc
  clear hc
  go_enter Tryz.func64, Tryz.ntmps64
  go_wp2_with fail
  refine (list_ok b sz a _ cap _ HC.out hs).mono ?_
  rintro e w' ⟨rfl, rfl⟩
  go_wp2
  go_ret
  exact ⟨rfl, rfl⟩
theorem size_ok (b : Nat) (sz : Int) (z : List (Int × Int)) (w : World) (h : PCk w b sz z) :
    Calls Tryz.prog 59 #[.pointer (some ⟨b, 0, none⟩)] w fun e w' => e = .returned (.int .i64 sz) ∧ w = w' := by
  obtain ⟨a, cap, hc, hl⟩ := h
  have c0 : w.cell? ⟨b, 0, none⟩ = some (.int .i64 sz) := by rw [cell_of hc]; rfl
  clear hc hl
  go_enter Tryz.func59, Tryz.ntmps59
  go_wp2
  go_ret
  exact ⟨rfl, rfl⟩

def NumP (n : Nat) (w : World) (e : Ending) (w' : World) : Prop := e = .returned (.int .i64 (n : Int)) ∧ Below w.heap.size w w'
theorem bits_lst (a : Option Addr) (len cap : Nat) (z : List (Int × Int)) (w : World) (hz : Lst w a len cap z) (hl : len ≤ 1048576) :
    Calls Tryz.prog 76 #[.slice a len cap] w (NumP (bitsZ z) w) := by
  have e := hz.len
  subst e
  exact dbits_any a _ cap z w hz.1 hl

set_option maxHeartbeats 400000 in
theorem used_ok (b : Nat) (sz : Int) (z : List (Int × Int)) (w : World) (h : PCk w b sz z) (hs : 1 ≤ sz) (hz : z.length ≤ 1048576) :
    Calls Tryz.prog 58 #[.pointer (some ⟨b, 0, none⟩)] w (NumP (usedL z) w) := by
  obtain ⟨a, cap, hc, hl⟩ := h
  have HC := Lib.hid hc
  have HL := Lib.hid hl
  have HU := Lib.hid (show usedL z = (bitsZ z + 7) / 8 from rfl)
  have hle := bitsZ_le z
  clear hc hl
  go_enter Tryz.func58, Tryz.ntmps58
  go_wp2_with fail
  refine (list_ok b sz a _ cap _ HC.out hs).mono ?_
  rintro e w' ⟨rfl, rfl⟩
  go_wp2_with fail
  refine (bits_lst a _ cap z _ HL.out hz).mono ?_
  rintro e w' ⟨rfl, b1⟩
  generalize bitsZ z = n at *
  go_wp2
  go_ret
  exact ⟨ret_int (by rw [HU.out]; omega), b1⟩

/-- One part. -/
theorem parts_one {w : World} {a : Option Addr} {len cap : Nat} {z : List (Int × Int)} (h : Lst w a len cap z) :
    PartsAt (w.alloc (.cells #[.slice a len cap] 53)) w.heap.size [z] (fun _ => a) (fun _ => cap) := by
  have e := h.len
  subst e
  intro i hi
  obtain rfl : i = 0 := by simp at hi; omega
  exact ⟨by rw [cell_of (heap_new w _)]; rfl, h.keepN (World.grownBy_alloc w _ none)⟩

set_option maxHeartbeats 400000 in
theorem all_new (b : Nat) (sz : Int) (z : List (Int × Int)) (w : World) (h : PCk w b sz z) (hs : 1 ≤ sz) (hz : z.length ≤ 1048576) :
    Calls Tryz.prog 82 #[.pointer (some ⟨b, 0, none⟩)] w (LaidN z w) := by
  obtain ⟨a, cap, hc, hl⟩ := h
  have HC := Lib.hid hc
  have HP := Lib.hid (parts_one hl)
  have HB := Lib.hid ((Below.refl w.heap.size w).alloc (Nat.le_refl _) (.cells #[.slice a z.length cap] 53))
  have hsz : w.heap.size < (w.alloc (.cells #[.slice a z.length cap] 53)).heap.size := by simp
  clear hc hl
  go_enter Tryz.func82, Tryz.ntmps82
  go_wp2_with fail
  refine (list_ok b sz a _ cap _ HC.out hs).mono ?_
  rintro e w' ⟨rfl, rfl⟩
  go_wp2_with fail
  generalize w.alloc (.cells #[.slice a z.length cap] 53) = W1 at *
  refine (laid_new w.heap.size [z] _ _ 1 W1 rfl HP.out hsz (by simpa using hz) (by omega)).mono ?_
  rintro e W2 ⟨a2, cap2, rfl, hl2, b2, f2⟩
  have F2 : ∀ q, a2 = some q → w.heap.size ≤ q.block := fun q e => Nat.le_trans (Nat.le_of_lt hsz) (f2 q e)
  have HF2 := Lib.hid F2
  clear f2 F2
  have B2 := HB.out.trans (b2.mono (Nat.le_of_lt hsz))
  simp only [List.flatten_cons, List.flatten_nil, List.append_nil] at hl2 ⊢
  clear b2 HB HP HC hsz
  go_wp2
  go_ret
  exact ⟨a2, cap2, rfl, hl2, B2, HF2.out⟩

theorem all_ok (b : Nat) (sz : Int) (z : List (Int × Int)) (w : World) (h : PCk w b sz z) (hs : 1 ≤ sz) (hz : z.length ≤ 1048576) :
    Calls Tryz.prog 82 #[.pointer (some ⟨b, 0, none⟩)] w (LaidP z w) :=
  (all_new b sz z w h hs hz).mono fun _ _ h => h.laid

/-- A sample, and whether there is one. -/
def EndP (z : List (Int × Int)) (i : Nat) (w : World) (e : Ending) (w' : World) : Prop :=
  e = .returned (.tuple #[.agg #[.int .i64 (tOf z i), .int .i64 (vOf z i)], .bool (decide (0 < z.length))]) ∧ Below w.heap.size w w'

end Go.Proofs.YtpbhdlhbcfkhfaaGreat
