/-
  Contracts of the document's Into, Of of a graph; the law's Plain.
-/
import Derived.Test.YtlogkhifgkkjeaaGRef
namespace Go.Proofs.Ytlogkhifgkkjeaa
open Go.RowKit
set_option linter.unusedVariables false
set_option linter.unusedSimpArgs false

theorem into_at {L : List Ru} {d : Tx} : ∀ {j : Nat}, j < L.length → (∀ t, t < j → (uA L t).dst ≠ d) → (uA L j).dst = d → intoL L d = some (uA L j) := by
  induction L with
  | nil => intro j h; simp at h
  | cons x l ih =>
    intro j hj h1 h2
    unfold intoL
    cases j with
    | zero => rw [List.find?_cons_of_pos (by simpa [uA] using h2)]; rfl
    | succ j =>
      rw [List.find?_cons_of_neg (by simpa [uA] using h1 0 (Nat.succ_pos _))]
      exact ih (j := j) (by simpa using hj) (fun t ht => by simpa [uA] using h1 (t + 1) (by omega)) (by simpa [uA] using h2)
theorem into_no {L : List Ru} {d : Tx} {n : Nat} (hn : L.length = n) (h : ∀ t, t < n → (uA L t).dst ≠ d) : intoL L d = none := into_none.2 fun r hr e => by
  obtain ⟨i, hi, rfl⟩ := uA_ex hr
  exact h i (by omega) e
theorem box_set3 {τ : TypeId} {w : World} {B : Nat} {q r : Ru} (h : BoxU τ w B q) :
    BoxU τ (((((w.setCell ⟨B, 0, none⟩ (.string (bs r.src))).setCell ⟨B, 1, none⟩ (.string (bs r.dst))).setCell ⟨B, 2, none⟩ (.int .i64 r.kind)).setCell ⟨B, 3, none⟩ (.int .i64 r.size)).setCell ⟨B, 4, none⟩ (.int .i64 r.align)) B r :=
  heap_set (heap_set (heap_set (heap_set (heap_set h))))
theorem below_set3 {A B : Nat} {w0 w : World} {r : Ru} (h : Below A w0 w) (hB : A ≤ B) :
    Below A w0 (((((w.setCell ⟨B, 0, none⟩ (.string (bs r.src))).setCell ⟨B, 1, none⟩ (.string (bs r.dst))).setCell ⟨B, 2, none⟩ (.int .i64 r.kind)).setCell ⟨B, 3, none⟩ (.int .i64 r.size)).setCell ⟨B, 4, none⟩ (.int .i64 r.align)) :=
  ((((h.setCell (p := ⟨B, 0, none⟩) hB _).setCell (p := ⟨B, 1, none⟩) hB _).setCell (p := ⟨B, 2, none⟩) hB _).setCell (p := ⟨B, 3, none⟩) hB _).setCell (p := ⟨B, 4, none⟩) hB _

set_option maxRecDepth 100000 in
set_option maxHeartbeats 2000000 in
theorem rinto11_any (w : World) (r : Nat) (a : Option Addr) (n c : Nat) (L : List Ru) (d : Tx) (h : RgAt w r a n c L) (hn : n ≤ 1000) :
    Calls Try.prog 21 #[.pointer (some ⟨r, 0, none⟩), .string (bs d)] w fun e w' => e = .returned (.tuple #[ruV ((intoL L d).getD zeroU), .bool (intoL L d).isSome]) ∧ Below w.heap.size w w' := by
  have B0 := (Below.refl w.heap.size w).alloc (Nat.le_refl _) (.cells #[.string ⟨#[]⟩, .string ⟨#[]⟩, .int .i64 0, .int .i64 0, .int .i64 0] 38)
  have X0 : BoxU 38 (w.alloc (.cells #[.string ⟨#[]⟩, .string ⟨#[]⟩, .int .i64 0, .int .i64 0, .int .i64 0] 38)) w.heap.size zeroU := BoxU.new _ w zeroU
  have H0 := h.keep B0
  have HLn := Lib.hid h.row.1
  have hrB := h.lt
  clear h
  go_enter Try.func21, Try.ntmps21
  go_wp2
  generalize hW0 : w.alloc (.cells #[.string ⟨#[]⟩, .string ⟨#[]⟩, .int .i64 0, .int .i64 0, .int .i64 0] 38) = W0 at *
  have HB0 := Lib.hid B0
  have HX0 := Lib.hid X0
  have HH := Lib.hid H0
  clear hW0 B0 X0 H0
  generalize hB : w.heap.size = B at *
  go_loopw [6] (fun i wr => ∃ j : Nat, j ≤ n ∧ i = .int .i64 (j : Int) ∧ Hid (∀ t, t < j → (uA L t).dst ≠ d) ∧ wr = W0) (fun i _ => n - (intOf i).toNat)
  case atStart => exact ⟨0, Nat.zero_le _, rfl, Lib.hid (fun t ht => absurd ht (Nat.not_lt_zero _)), rfl⟩
  case round =>
    obtain ⟨j, hj, rfl, HN, rfl⟩ := hrel
    have c0 := HH.out.cell.c0
    by_cases hjn : j < n
    · have hjz : (j : Int) < (n : Int) := by omega
      have hj0 : (0 : Int) ≤ (j : Int) := by omega
      obtain ⟨b, off, rfl, hb, x0, x1, x2, x3, x4⟩ := HH.out.row.at_ j hjn
      have heq := eq_bs (uA L j).dst d
      have HAT := Lib.hid (fun e => into_at (L := L) (d := d) (j := j) (by rw [HLn.out]; exact hjn) HN.out e)
      have HN2 := Lib.hid (show (uA L j).dst ≠ d → ∀ t, t < j + 1 → (uA L t).dst ≠ d from fun e t ht => by
        by_cases q : t = j
        · subst q; exact e
        · exact HN.out t (by omega))
      have f0 := frozen_of (o := 0) HX0.out
      have f1 := frozen_of (o := 1) HX0.out
      have f2 := frozen_of (o := 2) HX0.out
      have f3 := frozen_of (o := 3) HX0.out
      have f4 := frozen_of (o := 4) HX0.out
      have z0 := HX0.out.x0
      have z1 := HX0.out.x1
      have z2 := HX0.out.x2
      have z3 := HX0.out.x3
      have z4 := HX0.out.x4
      generalize uA L j = q at *
      by_cases he : q.dst = d
      · have HE := Lib.hid (HAT.out he)
        rw [decide_eq_true he] at heq
        clear he HAT HN2 HN
        go_wp2
        refine bodyPost_ret (results_cell_pair rfl _ _ B _ _ _ _ (.bool true) rfl rfl (box_set3 (r := q) HX0.out) Try.underlying38 rfl (by kernel_rfl)) rfl ?_
        rw [HE.out]
        exact ⟨rfl, by first | exact below_set3 (r := q) HB0.out (Nat.le_refl _) | (rw [hB]; exact below_set3 (r := q) HB0.out (Nat.le_refl _))⟩
      · have HN3 := Lib.hid (HN2.out he)
        rw [decide_eq_false he] at heq
        clear he HAT HN2 HN
        go_wp2
        go_roundw
        case rel => exact ⟨j + 1, by omega, by go_num, HN3, trivial⟩
        case measure => simp [intOf]; omega
    · have hjz : ¬ (j : Int) < (n : Int) := by omega
      obtain rfl : j = n := by omega
      have HE := Lib.hid (into_no HLn.out HN.out)
      have f0 := frozen_of (o := 0) HX0.out
      have f1 := frozen_of (o := 1) HX0.out
      have f2 := frozen_of (o := 2) HX0.out
      have f3 := frozen_of (o := 3) HX0.out
      have f4 := frozen_of (o := 4) HX0.out
      have z0 := HX0.out.x0
      have z1 := HX0.out.x1
      have z2 := HX0.out.x2
      have z3 := HX0.out.x3
      have z4 := HX0.out.x4
      clear HN
      go_wp2
      refine bodyPost_ret (results_cell_pair rfl _ _ B _ _ _ _ (.bool false) rfl rfl (box_set3 (r := zeroU) HX0.out) Try.underlying38 rfl (by kernel_rfl)) rfl ?_
      rw [HE.out]
      exact ⟨rfl, by first | exact below_set3 (r := zeroU) HB0.out (Nat.le_refl _) | (rw [hB]; exact below_set3 (r := zeroU) HB0.out (Nat.le_refl _))⟩

theorem of_snoc {L : List Ru} {s : Tx} {j : Nat} (h : j < L.length) : ofL (L.take (j + 1)) s = ofL (L.take j) s ++ (if (uA L j).src = s then [uA L j] else []) := by
  rw [take_snoc_u h]; unfold ofL; rw [List.filter_append]
  by_cases e : (uA L j).src = s <;> simp [e]

set_option maxRecDepth 100000 in
set_option maxHeartbeats 2000000 in
theorem rof11_any (w : World) (r : Nat) (a : Option Addr) (n c : Nat) (L : List Ru) (s : Tx) (h : RgAt w r a n c L) (hn : n ≤ 1000) :
    Calls Try.prog 26 #[.pointer (some ⟨r, 0, none⟩), .string (bs s)] w fun e w' => ∃ v, e = .returned v ∧ URow 38 w' w.heap.size v (ofL L s) ∧ Below w.heap.size w w' := by
  have HLn := Lib.hid h.row.1
  have HH := Lib.hid h
  clear h
  go_enter Try.func26, Try.ntmps26
  go_wp2
  go_loopw [5, 6] (fun o i wr => ∃ j : Nat, j ≤ n ∧ i = .int .i64 (j : Int) ∧ Hid (URow 38 wr w.heap.size o (ofL (L.take j) s)) ∧ Hid (Below w.heap.size w wr)) (fun _ i _ => n - (intOf i).toNat)
  case atStart => exact ⟨0, Nat.zero_le _, rfl, Lib.hid (by simpa [ofL] using URow.nil 38 w w.heap.size), Lib.hid (Below.refl _ _)⟩
  case round =>
    obtain ⟨j, hj, rfl, R, B⟩ := hrel
    have HH2 := Lib.hid (HH.out.keep B.out)
    have c0 := HH2.out.cell.c0
    by_cases hjn : j < n
    · have hjz : (j : Int) < (n : Int) := by omega
      have hj0 : (0 : Int) ≤ (j : Int) := by omega
      obtain ⟨b, off, rfl, hb, x0, x1, x2, x3, x4⟩ := HH2.out.row.at_ j hjn
      have heq := eq_bs (uA L j).src s
      have HS := Lib.hid (of_snoc (L := L) (s := s) (j := j) (by rw [HLn.out]; exact hjn))
      have hlen : (ofL (L.take j) s).length ≤ 1000 := Nat.le_trans (ofL_le _ _) (by rw [List.length_take]; omega)
      have hsz := B.out.size
      generalize uA L j = q at *
      by_cases he : q.src = s
      · rw [if_pos he] at HS
        rw [decide_eq_true he] at heq
        have B1 := (Below.refl wr.heap.size wr).alloc (Nat.le_refl _) (.cells #[.string (bs q.src), .string (bs q.dst), .int .i64 q.kind, .int .i64 q.size, .int .i64 q.align] 38)
        have H1 := Lib.hid (RuAt.one 38 wr q)
        have R1 := Lib.hid (R.out.keep B1)
        have HB1 := Lib.hid (B.out.trans (B1.mono B.out.size))
        clear he B1
        go_wp2_with (first
          | (at_builtin; refine wpList_append_du rfl _ _ rfl w.heap.size _ (ofL (L.take j) s) rfl R1.out _ 1 1 [q] rfl H1.out (by omega) HB1.out.size ?_; intro v2 w2 R2 g2))
        have R3 := Lib.hid (show URow 38 w2 w.heap.size v2 (ofL (L.take (j + 1)) s) from by rw [HS.out]; exact R2)
        have B3 := Lib.hid (URow.bel HB1.out HB1.out.size R1.out (Nat.le_refl _) g2)
        clear R2 g2 R1 H1 HB1 x0 x1 x2 x3 x4 c0 heq
        go_wp2
        go_roundw
        case rel => exact ⟨j + 1, by omega, by go_num, R3, B3⟩
        case measure => simp [intOf]; omega
      · rw [if_neg he, List.append_nil] at HS
        rw [decide_eq_false he] at heq
        have R3 := Lib.hid (show URow 38 wr w.heap.size _ (ofL (L.take (j + 1)) s) from by rw [HS.out]; exact R.out)
        clear he
        go_wp2
        go_roundw
        case rel => exact ⟨j + 1, by omega, by go_num, R3, B⟩
        case measure => simp [intOf]; omega
    · have hjz : ¬ (j : Int) < (n : Int) := by omega
      obtain rfl : j = n := by omega
      rw [show L.take j = L from List.take_of_length_le (by rw [HLn.out]; exact Nat.le_refl _)] at R
      go_wp2
      go_ret
      exact ⟨_, rfl, R.out, B.out⟩

set_option maxRecDepth 100000 in
set_option maxHeartbeats 2000000 in
/-- The law's Plain: the rules, for the document's answer. -/
theorem plain11_any (a : Option Addr) (n c : Nat) (l : List Ru) (w : World) (h : RuAt w a n c l) (hn : n ≤ 1000) :
    Calls Try.prog 23 #[.slice a n c] w fun e w' => ∃ v, e = .returned v ∧ URow 38 w' w.heap.size v l ∧ Below w.heap.size w w' := by
  have HL := Lib.hid h.1
  have H := Lib.hid h
  clear h
  go_enter Try.func23, Try.ntmps23
  go_wp2
  go_loopw [3, 4] (fun o i wr => ∃ j : Nat, j ≤ n ∧ i = .int .i64 (j : Int) ∧ Hid (URow 38 wr w.heap.size o (l.take j)) ∧ Hid (Below w.heap.size w wr)) (fun _ i _ => n - (intOf i).toNat)
  case atStart => exact ⟨0, Nat.zero_le _, rfl, Lib.hid (by simpa using URow.nil 38 w w.heap.size), Lib.hid (Below.refl _ _)⟩
  case round =>
    obtain ⟨j, hj, rfl, R, B⟩ := hrel
    by_cases hjn : j < n
    · have hjz : (j : Int) < (n : Int) := by omega
      have hj0 : (0 : Int) ≤ (j : Int) := by omega
      obtain ⟨b, off, rfl, hb, x0, x1, x2, x3, x4⟩ := (H.out.keep B.out).at_ j hjn
      have HS := Lib.hid (take_snoc_u (l := l) (j := j) (by rw [HL.out]; exact hjn))
      have hlen : (l.take j).length ≤ 1000 := by rw [List.length_take]; omega
      have HO := Lib.hid (one_any (uA l j) wr)
      unfold ruV at HO
      generalize uA l j = q at *
      go_wp2_with fail
      refine HO.out.mono ?_
      rintro e w1 ⟨rfl, b1⟩
      have HB1 := Lib.hid (B.out.trans (b1.mono B.out.size))
      have R1 := Lib.hid (R.out.keep b1)
      have B2 := (Below.refl w1.heap.size w1).alloc (Nat.le_refl _) (.cells #[.string (bs q.src), .string (bs q.dst), .int .i64 q.kind, .int .i64 q.size, .int .i64 q.align] 38)
      have H2 := Lib.hid (RuAt.one 38 w1 q)
      have R2 := Lib.hid (R1.out.keep B2)
      have HB2 := Lib.hid (HB1.out.trans (B2.mono HB1.out.size))
      clear b1 B2 R1 HB1 x0 x1 x2 x3 x4 HO
      go_wp2_with (first
        | (at_builtin; refine wpList_append_du rfl _ _ rfl w.heap.size _ (l.take j) rfl R2.out _ 1 1 [q] rfl H2.out (by omega) HB2.out.size ?_; intro v2 w2 R3 g3))
      have R4 := Lib.hid (show URow 38 w2 w.heap.size v2 (l.take (j + 1)) from by rw [HS.out]; exact R3)
      have B4 := Lib.hid (URow.bel HB2.out HB2.out.size R2.out (Nat.le_refl _) g3)
      clear R3 g3 R2 H2 HB2
      go_wp2
      go_roundw
      case rel => exact ⟨j + 1, by omega, by go_num, R4, B4⟩
      case measure => simp [intOf]; omega
    · have hjz : ¬ (j : Int) < (n : Int) := by omega
      obtain rfl : j = n := by omega
      rw [show l.take j = l from List.take_of_length_le (by rw [HL.out]; exact Nat.le_refl _)] at R
      go_wp2
      go_ret
      exact ⟨_, rfl, R.out, B.out⟩

end Go.Proofs.Ytlogkhifgkkjeaa
