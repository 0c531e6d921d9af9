/-
  Contract of the document's Add of a graph.
-/
import Derived.Test.YtlogkhifgkkjeaaGRef3
namespace Go.Proofs.Ytlogkhifgkkjeaa
open Go.RowKit
set_option linter.unusedVariables false
set_option linter.unusedSimpArgs false

theorem rright11_x (s d : Tx) (k n a : Int) (w : World) : Calls Try.prog 28 #[.agg #[.string (bs s), .string (bs d), .int .i64 k, .int .i64 n, .int .i64 a]] w fun e w' => e = .returned (.bool (decide (rightU ⟨s, d, k, n, a⟩))) ∧ Below w.heap.size w w' := rright11_any ⟨s, d, k, n, a⟩ w
theorem addE_is2 (L : List Ru) (r : Ru) : addE L r = if decide (rightU r) = false then 1 else if (intoL L r.dst).isSome = true then 6 else if (intoL L r.src).isSome = true then 10 else if ofL L r.dst ≠ [] then 10 else 0 := by
  unfold addE
  by_cases h1 : rightU r <;> by_cases h2 : (intoL L r.dst).isSome = true <;> by_cases h3 : ofL L r.dst = [] <;> by_cases h4 : (intoL L r.src).isSome = true <;> simp [h1, h2, h3, h4]
theorem addE_0 {L : List Ru} {r : Ru} (h : decide (rightU r) = false) : addE L r = 1 := by rw [addE_is2, if_pos h]
theorem addE_1 {L : List Ru} {r : Ru} (h : decide (rightU r) = true) (h2 : (intoL L r.dst).isSome = true) : addE L r = 6 := by rw [addE_is2, if_neg (by rw [h]; simp), if_pos h2]
theorem addE_2 {L : List Ru} {r : Ru} (h : decide (rightU r) = true) (h2 : (intoL L r.dst).isSome = false) (h3 : (intoL L r.src).isSome = true) : addE L r = 10 := by rw [addE_is2, if_neg (by rw [h]; simp), if_neg (by rw [h2]; simp), if_pos h3]
theorem addE_3 {L : List Ru} {r : Ru} (h : decide (rightU r) = true) (h2 : (intoL L r.dst).isSome = false) (h3 : (intoL L r.src).isSome = false) (h4 : ofL L r.dst ≠ []) : addE L r = 10 := by rw [addE_is2, if_neg (by rw [h]; simp), if_neg (by rw [h2]; simp), if_neg (by rw [h3]; simp), if_pos h4]
theorem addE_4 {L : List Ru} {r : Ru} (h : decide (rightU r) = true) (h2 : (intoL L r.dst).isSome = false) (h3 : (intoL L r.src).isSome = false) (h4 : ofL L r.dst = []) : addE L r = 0 := by rw [addE_is2, if_neg (by rw [h]; simp), if_neg (by rw [h2]; simp), if_neg (by rw [h3]; simp), if_neg (by simpa using h4)]
theorem raddU_no {L : List Ru} {r : Ru} (h : addE L r ≠ 0) : addU L r = L := if_neg h
theorem raddU_yes {L : List Ru} {r : Ru} (h : addE L r = 0) : addU L r = insU r L := if_pos h
theorem key_len {r : Ru} (h : rightU r) : r.src.length ≤ 9223372036854775807 ∧ r.dst.length ≤ 9223372036854775807 := by
  have h1 : r.src.length ≤ 64 := h.1.2
  have h2 : r.dst.length ≤ 64 := h.2.1.2
  omega

abbrev Eleven (w : World) (r b off n c B o : Nat) (q : Ru) (s d : Tx) (k z al : Int) : Prop :=
  w.cell? ⟨r, 0, none⟩ = some (.slice (some ⟨b, off, none⟩) n c) ∧ w.cell? ⟨b, o, none⟩ = some (.string (bs q.src)) ∧ w.cell? ⟨b, o + 1, none⟩ = some (.string (bs q.dst)) ∧ w.cell? ⟨b, o + 2, none⟩ = some (.int .i64 q.kind) ∧ w.cell? ⟨b, o + 3, none⟩ = some (.int .i64 q.size) ∧ w.cell? ⟨b, o + 4, none⟩ = some (.int .i64 q.align) ∧ w.cell? ⟨B, 0, none⟩ = some (.string (bs s)) ∧ w.cell? ⟨B, 1, none⟩ = some (.string (bs d)) ∧ w.cell? ⟨B, 2, none⟩ = some (.int .i64 k) ∧ w.cell? ⟨B, 3, none⟩ = some (.int .i64 z) ∧ w.cell? ⟨B, 4, none⟩ = some (.int .i64 al)
theorem eleven {w : World} {r b off n c B o : Nat} {q : Ru} {s d : Tx} {k z al : Int} {L : List Ru} (h : RgAt w r (some ⟨b, off, none⟩) n c L) (hx : BoxU 38 w B ⟨s, d, k, z, al⟩) (hu : U5 w b o q) : Eleven w r b off n c B o q s d k z al :=
  ⟨h.cell.c0, hu.x0, hu.x1, hu.x2, hu.x3, hu.x4, hx.x0, hx.x1, hx.x2, hx.x3, hx.x4⟩
theorem RgTurn.pre {w0 w w' : World} {r B : Nat} {L : List Ru} {a0 : Option Addr} (hb : Below B w0 w) (e : w0.heap.size = B) (hB : B < w.heap.size) (h : RgTurn w w' r a0 L) : RgTurn w0 w' r a0 L := by
  subst e
  obtain ⟨a, n, c, h1, h2, h3⟩ := h
  exact ⟨a, n, c, h1, (Tu.of (F := fun i => i = r) hb).trans h2 (fun _ _ f => f), fun ad e => (h3 ad e).imp id (fun k => ⟨by have := k.1; omega, k.2⟩)⟩
theorem rah_x (q : Ru) (s d : Tx) (k z al : Int) (W : World) (h : rightU q) (h1 : s.length ≤ 9223372036854775807) (h2 : d.length ≤ 9223372036854775807) :
    Calls Try.prog 33 #[ruV q, .agg #[.string (bs s), .string (bs d), .int .i64 k, .int .i64 z, .int .i64 al]] W fun e w' => e = .returned (.bool (decide (ahU q ⟨s, d, k, z, al⟩))) ∧ Below W.heap.size W w' := rah_any q ⟨s, d, k, z, al⟩ W (key_len h).1 (key_len h).2 h1 h2

set_option maxRecDepth 100000 in
set_option maxHeartbeats 4000000 in
theorem radd11_any (w : World) (r : Nat) (a : Option Addr) (n c : Nat) (L : List Ru) (u : Ru) (h : RgAt w r a n c L) (hn : n ≤ 1000) (hg : GoodU L) :
    Calls Try.prog 13 #[.pointer (some ⟨r, 0, none⟩), ruV u] w fun e w' => e = .returned (.int .i64 (addE L u)) ∧ RgTurn w w' r a (addU L u) := by
  obtain ⟨s, d, k, z, al⟩ := u
  unfold ruV
  show Calls Try.prog 13 #[.pointer (some ⟨r, 0, none⟩), .agg #[.string (bs s), .string (bs d), .int .i64 k, .int .i64 z, .int .i64 al]] w _
  have B1 := (Below.refl w.heap.size w).alloc (Nat.le_refl _) (.cells #[.string (bs s), .string (bs d), .int .i64 k, .int .i64 z, .int .i64 al] 38)
  have X1 := BoxU.new 38 w ⟨s, d, k, z, al⟩
  have HLn := Lib.hid h.row.1
  have HO := Lib.hid h
  have HG := Lib.hid hg
  have H1 := Lib.hid (h.keep B1)
  have hrl := h.lt
  have HR := Lib.hid (fun W => rright11_x s d k z al W)
  have HMD := Lib.hid (fun W (hW : RgAt W r a n c L) => rinto11_any W r a n c L d hW hn)
  have HMS := Lib.hid (fun W (hW : RgAt W r a n c L) => rinto11_any W r a n c L s hW hn)
  have HOF := Lib.hid (fun W (hW : RgAt W r a n c L) => rof11_any W r a n c L d hW hn)
  clear h hg
  go_enter Try.func13, Try.ntmps13
  go_wp2_with fail
  generalize hW1 : w.alloc (.cells #[.string (bs s), .string (bs d), .int .i64 k, .int .i64 z, .int .i64 al] 38) = W1 at *
  have HB1 := Lib.hid B1
  have HX1 := Lib.hid X1
  clear hW1 B1 X1
  have x0 := HX1.out.x0
  have x1 := HX1.out.x1
  have x2 := HX1.out.x2
  have x3 := HX1.out.x3
  have x4 := HX1.out.x4
  simp only at x0 x1 x2 x3 x4
  have hBw : Hid (w.heap.size = w.heap.size) := Lib.hid rfl
  revert hBw
  generalize hB : w.heap.size = B0 at HX1 HB1 x0 x1 x2 x3 x4 hrl ⊢
  intro hBw
  have HBw : Hid (w.heap.size = B0) := Lib.hid hB
  clear hB hBw
  first
    | go_wp2_with fail
    | skip
  refine (HR.out W1).mono ?_
  rintro e W2 ⟨rfl, b2⟩
  have HB2 := Lib.hid (HB1.out.trans (b2.mono (by have := HX1.out.lt; omega)))
  have H2 := Lib.hid (H1.out.keep b2)
  have HX2 := Lib.hid (HX1.out.keep b2)
  clear b2 HX1 H1 HB1 x0 x1 x2 x3 x4
  have x1 := HX2.out.x1
  simp only at x1
  cases hb1 : decide (rightU ⟨s, d, k, z, al⟩)
  · have E := Lib.hid (addE_0 (L := L) hb1)
    clear hb1
    go_wp2
    go_ret
    rw [E.out]; exact ⟨rfl, by rw [raddU_no (by rw [E.out]; decide)]; exact RgTurn.same HO.out HB2.out HBw.out⟩
  have hb1' := Lib.hid hb1
  clear hb1
  go_wp2_with fail
  refine (HMD.out W2 H2.out).mono ?_
  rintro e W3 ⟨rfl, b3⟩
  have HB3 := Lib.hid (HB2.out.trans (b3.mono (by have := HX2.out.lt; omega)))
  have H3 := Lib.hid (H2.out.keep b3)
  have HX3 := Lib.hid (HX2.out.keep b3)
  clear b3 HX2 H2 HB2 x1
  generalize (intoL L d).getD zeroU = q1
  unfold ruV
  have B4 := (Below.refl W3.heap.size W3).alloc (Nat.le_refl _) (.cells #[.string (bs q1.src), .string (bs q1.dst), .int .i64 q1.kind, .int .i64 q1.size, .int .i64 q1.align] 38)
  have HB4 := Lib.hid (HB3.out.trans (B4.mono (by have := HX3.out.lt; omega)))
  have H4 := Lib.hid (H3.out.keep B4)
  have HX4 := Lib.hid (HX3.out.keep B4)
  clear B4 H3 HX3 HB3
  have x0 := HX4.out.x0
  simp only at x0
  cases hb2 : (intoL L d).isSome
  case true =>
    have E := Lib.hid (addE_1 (r := ⟨s, d, k, z, al⟩) hb1'.out hb2)
    clear hb2
    go_wp2
    go_ret
    rw [E.out]; exact ⟨rfl, by rw [raddU_no (by rw [E.out]; decide)]; exact RgTurn.same HO.out HB4.out HBw.out⟩
  have hb2' := Lib.hid hb2
  clear hb2
  go_wp2_with fail
  generalize W3.alloc (.cells #[.string (bs q1.src), .string (bs q1.dst), .int .i64 q1.kind, .int .i64 q1.size, .int .i64 q1.align] 38) = W4 at *
  refine (HMS.out W4 H4.out).mono ?_
  rintro e W5 ⟨rfl, b5⟩
  have HB5 := Lib.hid (HB4.out.trans (b5.mono (by have := HX4.out.lt; omega)))
  have H5 := Lib.hid (H4.out.keep b5)
  have HX5 := Lib.hid (HX4.out.keep b5)
  clear b5 HX4 H4 HB4 x0
  generalize (intoL L s).getD zeroU = q2
  unfold ruV
  have B6 := (Below.refl W5.heap.size W5).alloc (Nat.le_refl _) (.cells #[.string (bs q2.src), .string (bs q2.dst), .int .i64 q2.kind, .int .i64 q2.size, .int .i64 q2.align] 38)
  have HB6 := Lib.hid (HB5.out.trans (B6.mono (by have := HX5.out.lt; omega)))
  have H6 := Lib.hid (H5.out.keep B6)
  have HX6 := Lib.hid (HX5.out.keep B6)
  clear B6 H5 HX5 HB5
  have x1 := HX6.out.x1
  simp only at x1
  cases hb3 : (intoL L s).isSome
  case true =>
    have E := Lib.hid (addE_2 (r := ⟨s, d, k, z, al⟩) hb1'.out hb2'.out hb3)
    clear hb3
    go_wp2
    go_ret
    rw [E.out]; exact ⟨rfl, by rw [raddU_no (by rw [E.out]; decide)]; exact RgTurn.same HO.out HB6.out HBw.out⟩
  have hb3' := Lib.hid hb3
  clear hb3
  go_wp2_with fail
  generalize W5.alloc (.cells #[.string (bs q2.src), .string (bs q2.dst), .int .i64 q2.kind, .int .i64 q2.size, .int .i64 q2.align] 38) = W6 at *
  refine (HOF.out W6 H6.out).mono ?_
  rintro e W7 ⟨v, rfl, R7, b7⟩
  have HB7 := Lib.hid (HB6.out.trans (b7.mono (by have := HX6.out.lt; omega)))
  have H7 := Lib.hid (H6.out.keep b7)
  have HX7 := Lib.hid (HX6.out.keep b7)
  clear b7 HX6 H6 HB6 x1
  obtain ⟨a7, cap7, rfl, _, _⟩ := R7.shape
  clear R7
  by_cases hb4 : ofL L d = []
  case neg =>
    have E := Lib.hid (addE_3 (r := ⟨s, d, k, z, al⟩) hb1'.out hb2'.out hb3'.out hb4)
    have hp : 0 < (ofL L d).length := List.length_pos_iff.2 hb4
    clear hb4
    generalize (ofL L d).length = m at *
    go_wp2
    go_ret
    rw [E.out]; exact ⟨rfl, by rw [raddU_no (by rw [E.out]; decide)]; exact RgTurn.same HO.out HB7.out HBw.out⟩
  have E := Lib.hid (addE_4 (r := ⟨s, d, k, z, al⟩) hb1'.out hb2'.out hb3'.out hb4)
  rw [show (ofL L d).length = 0 from by rw [hb4]; rfl]
  clear hb4 HR HMD HMS HOF hb2' hb3'
  have HKL := Lib.hid (key_len (of_decide_eq_true hb1'.out))
  clear hb1'
  go_wp2
  go_loopw [9, 10] (fun o i wr => ∃ j : Nat, j ≤ n ∧ i = .int .i64 (j : Int) ∧ Hid (URow 38 wr W7.heap.size o (L.take j)) ∧ Hid (∀ t, t < j → ahU (uA L t) ⟨s, d, k, z, al⟩) ∧ Hid (Below W7.heap.size W7 wr)) (fun _ i _ => n - (intOf i).toNat)
  case atStart => exact ⟨0, Nat.zero_le _, rfl, Lib.hid (by simpa using URow.nil 38 W7 W7.heap.size), Lib.hid (fun t ht => absurd ht (Nat.not_lt_zero _)), Lib.hid (Below.refl _ _)⟩
  case round =>
    obtain ⟨j, hj, rfl, R, HN, B8⟩ := hrel
    have H8 := Lib.hid (H7.out.keep B8.out)
    have HX8 := Lib.hid (HX7.out.keep B8.out)
    have c0 := H8.out.cell.c0
    by_cases hjn : j < n
    · have hjz : (j : Int) < (n : Int) := by omega
      have hj0 : (0 : Int) ≤ (j : Int) := by omega
      have HAT := Lib.hid (fun W (hW : RgAt W r a n c L) => hW.row.at_ j hjn)
      have HA := Lib.hid (fun W => rah_x (uA L j) s d k z al W (HG.out.right _ (uA_mem (by rw [HLn.out]; exact hjn))) HKL.out.1 HKL.out.2)
      obtain ⟨b, off, ea, hb, x0, x1, x2, x3, x4⟩ := H8.out.row.at_ j hjn
      have y0 := HX8.out.x0
      have y1 := HX8.out.x1
      have y2 := HX8.out.x2
      have y3 := HX8.out.x3
      have y4 := HX8.out.x4
      simp only at y0 y1 y2 y3 y4
      have hlen : (L.take j).length ≤ 1000 := by rw [List.length_take]; omega
      have hsz := B8.out.size
      have HS := Lib.hid (take_snoc_u (l := L) (j := j) (by rw [HLn.out]; exact hjn))
      have HN2 := Lib.hid (show ahU (uA L j) ⟨s, d, k, z, al⟩ → ∀ t, t < j + 1 → ahU (uA L t) ⟨s, d, k, z, al⟩ from fun e t ht => by
        by_cases q : t = j
        · subst q; exact e
        · exact HN.out t (by omega))
      have HI := Lib.hid (fun (e : ¬ ahU (uA L j) ⟨s, d, k, z, al⟩) => ins_at (L := L) (r := ⟨s, d, k, z, al⟩) (j := j) (by rw [HLn.out]; exact hj) HN.out (.inr e))
      generalize uA L j = q at *
      unfold ruV at HA
      by_cases ha : ahU q ⟨s, d, k, z, al⟩
      · have HN3 := Lib.hid (HN2.out ha)
        rw [decide_eq_true ha] at HA
        clear HI HN2 ha
        cases ea
        go_wp2_with fail
        have HU8 := Lib.hid (show U5 wr b (off + j * 5) q from ⟨x0, x1, x2, x3, x4⟩)
        have HE5 := Lib.hid (eleven (H8.out.keep (Below.refl _ wr).drew) (HX8.out.keep (Below.refl _ wr).drew) (HU8.out.tu (F := fun _ => False) (.of (Below.refl _ wr).drew) id))
        go_region_held3 (fun w' => w'.cell? ⟨r, 0, none⟩ = some (.slice (some ⟨b, off, none⟩) n c) ∧ w'.cell? ⟨b, off + j * 5, none⟩ = some (.string (bs q.src)) ∧ w'.cell? ⟨b, off + j * 5 + 1, none⟩ = some (.string (bs q.dst)) ∧ w'.cell? ⟨b, off + j * 5 + 2, none⟩ = some (.int .i64 q.kind) ∧ w'.cell? ⟨b, off + j * 5 + 3, none⟩ = some (.int .i64 q.size) ∧ w'.cell? ⟨b, off + j * 5 + 4, none⟩ = some (.int .i64 q.align) ∧ w'.cell? ⟨B0, 0, none⟩ = some (.string (bs s)) ∧ w'.cell? ⟨B0, 1, none⟩ = some (.string (bs d)) ∧ w'.cell? ⟨B0, 2, none⟩ = some (.int .i64 k) ∧ w'.cell? ⟨B0, 3, none⟩ = some (.int .i64 z) ∧ w'.cell? ⟨B0, 4, none⟩ = some (.int .i64 al))
          (first
            | exact HE6.out
            | exact HE5.out
            | go_keep)
          (first
            | (go_at_call 33
               (with_reducible refine (HA.out _).mono ?_)
               rintro e W9 ⟨rfl, b9⟩
               have HE6 := Lib.hid (eleven ((H8.out.keep (Below.refl _ wr).drew).keep b9) ((HX8.out.keep (Below.refl _ wr).drew).keep b9) (HU8.out.tu (F := fun _ => False) (.of ((Below.refl _ wr).drew.trans b9)) id)))
            | fail)
        have R9 := Lib.hid (R.out.keep ((Below.refl _ wr).drew.trans b9))
        have B9 := Lib.hid (B8.out.trans (((Below.refl _ wr).drew.trans b9).mono hsz))
        have H9 := Lib.hid (H8.out.keep ((Below.refl _ wr).drew.trans b9))
        clear b9 R B8 HE5 HE6 HU8 H8 HX8 c0 x0 x1 x2 x3 x4 y0 y1 y2 y3 y4
        rename_i hHeld
        clear hHeld
        have c0 := H9.out.cell.c0
        obtain ⟨b2, off2, e2, hb2, x0, x1, x2, x3, x4⟩ := HAT.out W9 H9.out
        cases e2
        have B6 := (Below.refl W9.heap.size W9).alloc (Nat.le_refl _) (.cells #[.string (bs q.src), .string (bs q.dst), .int .i64 q.kind, .int .i64 q.size, .int .i64 q.align] 38)
        have H1 := Lib.hid (RuAt.one 38 W9 q)
        have R1 := Lib.hid (R9.out.keep B6)
        have HB1 := Lib.hid (B9.out.trans (B6.mono B9.out.size))
        clear B6 HAT HA
        go_wp2_with (first
          | (at_builtin; refine wpList_append_du rfl _ _ rfl W7.heap.size _ (L.take j) rfl R1.out _ 1 1 [q] rfl H1.out (by omega) HB1.out.size ?_; intro v2 w2 R2 g2))
        have R3 := Lib.hid (show URow 38 w2 W7.heap.size v2 (L.take (j + 1)) from by rw [HS.out]; exact R2)
        have B3 := Lib.hid (URow.bel HB1.out HB1.out.size R1.out (Nat.le_refl _) g2)
        clear R2 g2 R1 H1 HB1 x0 x1 x2 x3 x4 c0
        go_wp2
        go_roundw
        case rel => exact ⟨j + 1, by omega, by go_num, R3, HN3, B3⟩
        case measure => simp [intOf]; omega
      · have HI2 := Lib.hid (HI.out ha)
        rw [decide_eq_false ha] at HA
        clear HI HN2 ha
        cases ea
        go_wp2_with fail
        have HU8 := Lib.hid (show U5 wr b (off + j * 5) q from ⟨x0, x1, x2, x3, x4⟩)
        have HE5 := Lib.hid (eleven (H8.out.keep (Below.refl _ wr).drew) (HX8.out.keep (Below.refl _ wr).drew) (HU8.out.tu (F := fun _ => False) (.of (Below.refl _ wr).drew) id))
        go_region_held3 (fun w' => w'.cell? ⟨r, 0, none⟩ = some (.slice (some ⟨b, off, none⟩) n c) ∧ w'.cell? ⟨b, off + j * 5, none⟩ = some (.string (bs q.src)) ∧ w'.cell? ⟨b, off + j * 5 + 1, none⟩ = some (.string (bs q.dst)) ∧ w'.cell? ⟨b, off + j * 5 + 2, none⟩ = some (.int .i64 q.kind) ∧ w'.cell? ⟨b, off + j * 5 + 3, none⟩ = some (.int .i64 q.size) ∧ w'.cell? ⟨b, off + j * 5 + 4, none⟩ = some (.int .i64 q.align) ∧ w'.cell? ⟨B0, 0, none⟩ = some (.string (bs s)) ∧ w'.cell? ⟨B0, 1, none⟩ = some (.string (bs d)) ∧ w'.cell? ⟨B0, 2, none⟩ = some (.int .i64 k) ∧ w'.cell? ⟨B0, 3, none⟩ = some (.int .i64 z) ∧ w'.cell? ⟨B0, 4, none⟩ = some (.int .i64 al))
          (first
            | exact HE6.out
            | exact HE5.out
            | go_keep)
          (first
            | (go_at_call 33
               (with_reducible refine (HA.out _).mono ?_)
               rintro e W9 ⟨rfl, b9⟩
               have HE6 := Lib.hid (eleven ((H8.out.keep (Below.refl _ wr).drew).keep b9) ((HX8.out.keep (Below.refl _ wr).drew).keep b9) (HU8.out.tu (F := fun _ => False) (.of ((Below.refl _ wr).drew.trans b9)) id)))
            | fail)
        have R9 := Lib.hid (R.out.keep ((Below.refl _ wr).drew.trans b9))
        have B9 := Lib.hid (B8.out.trans (((Below.refl _ wr).drew.trans b9).mono hsz))
        have H9 := Lib.hid (H8.out.keep ((Below.refl _ wr).drew.trans b9))
        have HX9 := Lib.hid (HX8.out.keep ((Below.refl _ wr).drew.trans b9))
        clear b9 R B8 HE5 HE6 HU8 H8 HX8 c0 x0 x1 x2 x3 x4 y0 y1 y2 y3 y4 HA HAT
        rename_i hHeld
        clear hHeld
        have c0 := H9.out.cell.c0
        have y0 := HX9.out.x0
        have y1 := HX9.out.x1
        have y2 := HX9.out.x2
        have y3 := HX9.out.x3
        have y4 := HX9.out.x4
        simp only at y0 y1 y2 y3 y4
        have B6 := (Below.refl W9.heap.size W9).alloc (Nat.le_refl _) (.cells #[.string (bs s), .string (bs d), .int .i64 k, .int .i64 z, .int .i64 al] 38)
        have H1 := Lib.hid (RuAt.one 38 W9 ⟨s, d, k, z, al⟩)
        have R1 := Lib.hid (R9.out.keep B6)
        have HB1 := Lib.hid (B9.out.trans (B6.mono B9.out.size))
        have HT := Lib.hid (fun w2 (b : Below W7.heap.size W7 w2) => H7.out.keep b)
        clear B6
        have HTL := Lib.hid (show (L.take j ++ [(⟨s, d, k, z, al⟩ : Ru)]).length ≤ 1001 from by rw [List.length_append]; simp only [List.length_cons, List.length_nil]; omega)
        have HFR := Lib.hid (fun W (hW : RgAt W r (some ⟨b, off, none⟩) n c L) => RuAt.from_du hW.row j (by omega))
        have HIN := Lib.hid (show L.take j ++ [(⟨s, d, k, z, al⟩ : Ru)] ++ L.drop j = insU ⟨s, d, k, z, al⟩ L from by rw [HI2.out]; simp)
        go_wp2_with (first
          | (at_builtin
             refine wpList_append_du rfl _ _ rfl W7.heap.size _ (L.take j) rfl R1.out _ 1 1 [⟨s, d, k, z, al⟩] rfl H1.out (by omega) HB1.out.size ?_
             intro v2 w2 R2 g2
             have HR2 := Lib.hid R2
             have B3 := Lib.hid (URow.bel HB1.out HB1.out.size R1.out (Nat.le_refl _) g2)
             have H2 := Lib.hid (HT.out w2 B3.out)
             clear R2 g2 R1 H1 HB1 y0 y1 y2 y3 y4 c0
             have c0 := H2.out.cell.c0
             obtain ⟨a', hsl, HD, hsrc⟩ := HFR.out w2 H2.out
             have HDh := Lib.hid HD
             clear HD hsrc)
          | (at_builtin
             refine wpList_append_du rfl _ _ rfl W7.heap.size v2 (L.take j ++ [⟨s, d, k, z, al⟩]) rfl HR2.out a' (n - j) (c - j) (L.drop j) rfl HDh.out (by have := HTL.out; omega) B3.out.size ?_
             intro v4 w4 R4 g4
             have B4 := Lib.hid (URow.bel B3.out B3.out.size HR2.out (Nat.le_refl _) g4)
             have H4 := Lib.hid (HT.out w4 B4.out)
             have f0 := frozen_of (o := 0) H4.out.cell
             have R5 := Lib.hid (show URow 38 w4 W7.heap.size v4 (insU ⟨s, d, k, z, al⟩ L) from by rw [← HIN.out]; exact R4)
             obtain ⟨a5, cap5, e5, h5, k5⟩ := R5.out.shape
             subst e5
             have HST := Lib.hid (rg_store (a0 := some ⟨b, off, none⟩) B4.out H4.out.cell R5.out H7.out.lt rfl)
             clear h5 k5
             generalize (insU ⟨s, d, k, z, al⟩ L).length = m5 at *
             clear R4 g4 hsl HDh c0
             have c0 := H4.out.cell.c0))
        go_ret
        rw [E.out]; exact ⟨rfl, by rw [raddU_yes E.out]; exact RgTurn.pre HB7.out HBw.out HX7.out.lt HST.out⟩
    · have hjz : ¬ (j : Int) < (n : Int) := by omega
      have hj0 : (0 : Int) ≤ (j : Int) := by omega
      have hsz := B8.out.size
      have hlen : (L.take j).length ≤ 1000 := by rw [List.length_take]; omega
      have HI := Lib.hid (ins_at (L := L) (r := ⟨s, d, k, z, al⟩) (j := j) (by rw [HLn.out]; exact hj) HN.out (.inl (by rw [HLn.out]; omega)))
      go_wp2_with fail
      go_quiet (fail)
      have hd4 : Below wr.heap.size wr (wr.drewN nq) := gb_below_none ((show Drew wr (wr.drewN nq) from ⟨nq, rfl⟩).gb none)
      have R9 := Lib.hid (R.out.keep hd4)
      have B9 := Lib.hid (B8.out.trans (hd4.mono hsz))
      have H9 := Lib.hid (H8.out.keep hd4)
      have HX9 := Lib.hid (HX8.out.keep hd4)
      generalize wr.drewN nq = W9 at *
      clear hd4 R B8 H8 HX8 c0
      have c0 := H9.out.cell.c0
      have y0 := HX9.out.x0
      have y1 := HX9.out.x1
      have y2 := HX9.out.x2
      have y3 := HX9.out.x3
      have y4 := HX9.out.x4
      simp only at y0 y1 y2 y3 y4
      have B6 := (Below.refl W9.heap.size W9).alloc (Nat.le_refl _) (.cells #[.string (bs s), .string (bs d), .int .i64 k, .int .i64 z, .int .i64 al] 38)
      have H1 := Lib.hid (RuAt.one 38 W9 ⟨s, d, k, z, al⟩)
      have R1 := Lib.hid (R9.out.keep B6)
      have HB1 := Lib.hid (B9.out.trans (B6.mono B9.out.size))
      have HT := Lib.hid (fun w2 (b : Below W7.heap.size W7 w2) => H7.out.keep b)
      clear B6
      have HTL := Lib.hid (show (L.take j ++ [(⟨s, d, k, z, al⟩ : Ru)]).length ≤ 1001 from by rw [List.length_append]; simp only [List.length_cons, List.length_nil]; omega)
      have HFR := Lib.hid (fun W (hW : RgAt W r a n c L) => RuAt.from_du hW.row j (by omega))
      have HIN := Lib.hid (show L.take j ++ [(⟨s, d, k, z, al⟩ : Ru)] ++ L.drop j = insU ⟨s, d, k, z, al⟩ L from by rw [HI.out]; simp)
      go_wp2_with (first
        | (at_builtin
           refine wpList_append_du rfl _ _ rfl W7.heap.size _ (L.take j) rfl R1.out _ 1 1 [⟨s, d, k, z, al⟩] rfl H1.out (by omega) HB1.out.size ?_
           intro v2 w2 R2 g2
           have HR2 := Lib.hid R2
           have B3 := Lib.hid (URow.bel HB1.out HB1.out.size R1.out (Nat.le_refl _) g2)
           have H2 := Lib.hid (HT.out w2 B3.out)
           clear R2 g2 R1 H1 HB1 y0 y1 y2 y3 y4 c0
           have c0 := H2.out.cell.c0
           obtain ⟨a', hsl, HD, hsrc⟩ := HFR.out w2 H2.out
           have HDh := Lib.hid HD
           clear HD hsrc)
        | (at_builtin
           refine wpList_append_du rfl _ _ rfl W7.heap.size v2 (L.take j ++ [⟨s, d, k, z, al⟩]) rfl HR2.out a' (n - j) (c - j) (L.drop j) rfl HDh.out (by have := HTL.out; omega) B3.out.size ?_
           intro v4 w4 R4 g4
           have B4 := Lib.hid (URow.bel B3.out B3.out.size HR2.out (Nat.le_refl _) g4)
           have H4 := Lib.hid (HT.out w4 B4.out)
           have f0 := frozen_of (o := 0) H4.out.cell
           have R5 := Lib.hid (show URow 38 w4 W7.heap.size v4 (insU ⟨s, d, k, z, al⟩ L) from by rw [← HIN.out]; exact R4)
           obtain ⟨a5, cap5, e5, h5, k5⟩ := R5.out.shape
           subst e5
           have HST := Lib.hid (rg_store (a0 := a) B4.out H4.out.cell R5.out H7.out.lt rfl)
           clear h5 k5
           generalize (insU ⟨s, d, k, z, al⟩ L).length = m5 at *
           clear R4 g4 hsl HDh c0
           have c0 := H4.out.cell.c0))
      go_ret
      rw [E.out]; exact ⟨rfl, by rw [raddU_yes E.out]; exact RgTurn.pre HB7.out HBw.out HX7.out.lt HST.out⟩

end Go.Proofs.Ytlogkhifgkkjeaa
