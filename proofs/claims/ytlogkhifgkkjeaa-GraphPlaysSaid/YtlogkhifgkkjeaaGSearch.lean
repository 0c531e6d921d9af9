/-
  Contract of slices.BinarySearchFunc of rules by what they make: how many stand ahead. And slices.Clone of rules.
-/
import Derived.Test.YtlogkhifgkkjeaaGSmall
import Derived.Test.YtlogkhifgkkjeaaEMem
namespace Go.Proofs.Ytlogkhifgkkjeaa
open Go.RowKit
set_option linter.unusedVariables false
set_option linter.unusedSimpArgs false

theorem atU_is {l : List Ru} {d : Tx} {i : Nat} (hi : i ≤ l.length) (h1 : ∀ t, t < i → (uA l t).dst < d) (h2 : ∀ t, i ≤ t → t < l.length → ¬ (uA l t).dst < d) : atU l d = i := by
  have e : l = l.take i ++ l.drop i := (List.take_append_drop _ _).symm
  unfold atU
  rw [e, List.countP_append]
  have e1 : (l.take i).countP (fun x => decide (x.dst < d)) = i := by
    have hl : (l.take i).length = i := by rw [List.length_take]; omega
    conv => rhs; rw [← hl]
    rw [List.countP_eq_length]
    intro x hx
    obtain ⟨t, ht, rfl⟩ := List.getElem_of_mem hx
    have := h1 t (by omega)
    rw [uA_get (by omega)] at this
    rw [List.getElem_take]; simpa using this
  have e2 : (l.drop i).countP (fun x => decide (x.dst < d)) = 0 := by
    rw [List.countP_eq_zero]
    intro x hx
    obtain ⟨t, ht, rfl⟩ := List.getElem_of_mem hx
    rw [List.length_drop] at ht
    have := h2 (i + t) (by omega) (by omega)
    rw [uA_get (by omega)] at this
    rw [List.getElem_drop]; simpa using this
  rw [e1, e2, Nat.add_zero]
theorem cmp_lt {x y : Tx} : cmpL x y < 0 ↔ x < y := by
  unfold cmpL
  by_cases h1 : x < y
  · simp [h1]
  · by_cases h2 : y < x <;> simp [h1, h2]
theorem dst_lt {l : List Ru} (h : l.Pairwise (fun a b => a.dst < b.dst)) {i j : Nat} (hij : i < j) (hj : j < l.length) : (uA l i).dst < (uA l j).dst := by
  rw [uA_get (by omega), uA_get hj]
  exact List.pairwise_iff_getElem.1 h i j (by omega) hj hij
theorem byDst_x (s t : Tx) (k n a : Int) (d : Tx) (w : World) : Calls Try.prog 48 #[.agg #[.string (bs s), .string (bs t), .int .i64 k, .int .i64 n, .int .i64 a], .string (bs d)] w fun e w' => e = .returned (.int .i64 (cmpL t d)) ∧ Below w.heap.size w w' := byDst_any ⟨s, t, k, n, a⟩ d w

def SeaP (k : Nat) (w : World) (e : Ending) (w' : World) : Prop := ∃ b, e = .returned (.tuple #[.int .i64 (k : Int), .bool b]) ∧ Below w.heap.size w w'
set_option maxRecDepth 100000 in
set_option maxHeartbeats 2000000 in
theorem bsearch_any (a : Option Addr) (n c : Nat) (l : List Ru) (d : Tx) (w : World) (h : RuAt w a n c l) (hn : n ≤ 1000) (hs : l.Pairwise (fun a b => a.dst < b.dst)) :
    Calls Try.prog 47 #[.slice a n c, .string (bs d), .func (.func 48) #[] #[]] w (SeaP (atU l d) w) := by
  have eg : ∀ args w, (callFunc 48 args).run Try.prog w = .ok (.enter 48 args) w := enters_of Try.func48 (by kernel_rfl) rfl
  have hl := h.1
  have H := Lib.hid h
  have HL := Lib.hid hl
  have HS := Lib.hid hs
  clear h hs hl
  go_enter Try.func47, Try.ntmps47
  go_wp2
  go_loopw [9, 10] (fun i j wr => ∃ lo hi : Nat, lo ≤ hi ∧ hi ≤ n ∧ i = .int .i64 (lo : Int) ∧ j = .int .i64 (hi : Int) ∧ Hid (∀ t, t < lo → (uA l t).dst < d) ∧ Hid (∀ t, hi ≤ t → t < n → ¬ (uA l t).dst < d) ∧ Below w.heap.size w wr) (fun i j _ => (intOf j).toNat - (intOf i).toNat)
  case atStart => exact ⟨0, n, Nat.zero_le _, Nat.le_refl _, rfl, rfl, Lib.hid (fun t ht => absurd ht (Nat.not_lt_zero _)), Lib.hid (fun t h1 h2 => by omega), Below.refl _ _⟩
  case round =>
    obtain ⟨lo, hi, hlh, hin, rfl, rfl, I1, I2, B⟩ := hrel
    by_cases hab : lo < hi
    · have hm1 : lo ≤ (lo + hi) / 2 := by omega
      have hm2 : (lo + hi) / 2 < hi := by omega
      have HM : (((lo : Int) + (hi : Int)) / 2) = (((lo + hi) / 2 : Nat) : Int) := by omega
      generalize (lo + hi) / 2 = m at *
      obtain ⟨b, off, rfl, hb, x0, x1, x2, x3, x4⟩ := (H.out.keep B).at_ m (by omega)
      have hm3 : (m : Int) < (n : Int) := by omega
      have HV := Lib.hid (show ∀ W, Calls Try.prog 48 #[.agg #[.string (bs (uA l m).src), .string (bs (uA l m).dst), .int .i64 (uA l m).kind, .int .i64 (uA l m).size, .int .i64 (uA l m).align], .string (bs d)] W fun e w' => e = .returned (.int .i64 (cmpL (uA l m).dst d)) ∧ Below W.heap.size W w' from fun W => byDst_x _ _ _ _ _ d W)
      have HLO := Lib.hid (show cmpL (uA l m).dst d < 0 → ∀ t, t < m + 1 → (uA l t).dst < d from fun e t ht => by
        have hlt := cmp_lt.1 e
        by_cases q : t = m
        · subst q; exact hlt
        · exact lt_tr (dst_lt HS.out (show t < m by omega) (by rw [HL.out]; omega)) hlt)
      have HHI := Lib.hid (show ¬ cmpL (uA l m).dst d < 0 → ∀ t, m ≤ t → t < n → ¬ (uA l t).dst < d from fun e t h1 h2 k => by
        have hlt : ¬ (uA l m).dst < d := fun q => e (cmp_lt.2 q)
        by_cases q : t = m
        · subst q; exact hlt k
        · exact hlt (lt_tr (dst_lt HS.out (show m < t by omega) (by rw [HL.out]; omega)) k))
      generalize cmpL (uA l m).dst d = cm at *
      generalize bs (uA l m).src = u0 at *
      generalize bs (uA l m).dst = u1 at *
      generalize (uA l m).kind = u2 at *
      generalize (uA l m).size = u3 at *
      generalize (uA l m).align = u4 at *
      have hm0 : (0 : Int) ≤ (m : Int) := by omega
      by_cases hc : cm < 0
      · have J1 := Lib.hid (HLO.out hc)
        clear HLO HHI
        go_wp2_with fail
        refine (HV.out _).mono ?_
        rintro e w2 ⟨rfl, b2⟩
        have B2 := bel_gbn B B.size (gb_below b2)
        clear b2 B HV x0 x1 x2 x3 x4
        go_wp2
        go_roundw
        case rel => exact ⟨m + 1, hi, by omega, hin, by go_num, rfl, J1, I2, B2⟩
        case measure => simp [intOf]; omega
      · have J2 := Lib.hid (HHI.out hc)
        clear HLO HHI
        go_wp2_with fail
        refine (HV.out _).mono ?_
        rintro e w2 ⟨rfl, b2⟩
        have B2 := bel_gbn B B.size (gb_below b2)
        clear b2 B HV x0 x1 x2 x3 x4
        go_wp2
        go_roundw
        case rel => exact ⟨lo, m, by omega, by omega, rfl, rfl, I1, J2, B2⟩
        case measure => simp [intOf]; omega
    · obtain rfl : lo = hi := by omega
      have HK := Lib.hid (show atU l d = lo from atU_is (by rw [HL.out]; exact hin) I1.out (fun t h1 h2 => I2.out t h1 (by rw [← HL.out]; exact h2)))
      clear I1 I2
      by_cases hln : lo < n
      · obtain ⟨b, off, rfl, hb, x0, x1, x2, x3, x4⟩ := (H.out.keep B).at_ lo (by omega)
        have hm3 : (lo : Int) < (n : Int) := by omega
        have hm0 : (0 : Int) ≤ (lo : Int) := by omega
        have HV := Lib.hid (show ∀ W, Calls Try.prog 48 #[.agg #[.string (bs (uA l lo).src), .string (bs (uA l lo).dst), .int .i64 (uA l lo).kind, .int .i64 (uA l lo).size, .int .i64 (uA l lo).align], .string (bs d)] W fun e w' => e = .returned (.int .i64 (cmpL (uA l lo).dst d)) ∧ Below W.heap.size W w' from fun W => byDst_x _ _ _ _ _ d W)
        generalize cmpL (uA l lo).dst d = cm at *
        generalize bs (uA l lo).src = u0 at *
        generalize bs (uA l lo).dst = u1 at *
        generalize (uA l lo).kind = u2 at *
        generalize (uA l lo).size = u3 at *
        generalize (uA l lo).align = u4 at *
        go_wp2_with fail
        refine (HV.out _).mono ?_
        rintro e w2 ⟨rfl, b2⟩
        have B2 := bel_gbn B B.size (gb_below b2)
        clear b2 B HV x0 x1 x2 x3 x4
        go_wp2
        go_ret2
        unfold SeaP; rw [HK.out]; exact ⟨_, rfl, B2⟩
      · have hm3 : ¬ (lo : Int) < (n : Int) := by omega
        go_wp2
        go_ret2
        unfold SeaP; rw [HK.out]; exact ⟨_, rfl, B⟩

theorem gnew_row (w : World) : URow 31 (w.alloc (.cells #[] 31)) w.heap.size (.slice (some ⟨w.heap.size, 0, none⟩) 0 0) [] :=
  World.ownsRow_made w #[] 0 (Nat.le_refl _) (Nat.zero_le _) (by simp)
set_option maxRecDepth 100000 in
set_option maxHeartbeats 2000000 in
/-- slices.Clone. -/
theorem gclone_any (a : Option Addr) (n c : Nat) (l : List Ru) (w : World) (h : RuAt w a n c l) (hn : n ≤ 1000) :
    Calls Try.prog 37 #[.slice a n c] w fun e w' => ∃ v, e = .returned v ∧ URow 31 w' w.heap.size v l ∧ Below w.heap.size w w' := by
  have heq := fun (W : World) (a : Option Addr) (n c n' c' : Nat) => Lib.run_eql_slice_nil (P := Try.prog) W 51 _ a n c n' c' Try.underlying51
  cases a with
  | none =>
    obtain ⟨h0, e0⟩ := h.nothing
    subst h0
    subst e0
    clear h
    go_enter Try.func37, Try.ntmps37
    go_wp2
    go_ret
    exact ⟨_, rfl, URow.nil _ _ _, Below.refl _ _⟩
  | some ad =>
    have B1 := (Below.refl w.heap.size w).alloc (Nat.le_refl _) (.cells #[] 31)
    have R1 := Lib.hid (gnew_row w)
    have H1 := Lib.hid (h.keep B1)
    have HB := Lib.hid B1
    clear h B1
    go_enter Try.func37, Try.ntmps37
    go_wp2_with (at_builtin; refine wpList_append_gu rfl _ _ rfl w.heap.size _ [] rfl R1.out _ n c l rfl H1.out (by simp; omega) HB.out.size ?_; intro v2 w2 R2 g2)
    go_ret
    exact ⟨v2, rfl, R2, URow.bel HB.out HB.out.size R1.out (Nat.le_refl _) g2⟩

end Go.Proofs.Ytlogkhifgkkjeaa
