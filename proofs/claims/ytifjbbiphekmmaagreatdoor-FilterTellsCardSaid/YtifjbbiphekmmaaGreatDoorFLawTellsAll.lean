/-
  The statement 'FilterTells' of layer 10: any term's text, whether it is right, whether it is another one, whether it matches any labels.
  No condition on the arguments; the tables of unicode/utf8 are as the program's text lays them (the card ties that).
-/
import Derived.Test.YtifjbbiphekmmaaGreatDoorFShow
import Derived.Test.YtifjbbiphekmmaaGreatDoorFRefW
import Derived.Test.YtifjbbiphekmmaaGreatDoorFMem
import Derived.Test.YtifjbbiphekmmaaGreatDoorEHas
import Derived.Test.YtifjbbiphekmmaaGreatDoorFKnown
import Derived.Test.YtifjbbiphekmmaaGreatDoorFArgs
import Derived.Test.YtifjbbiphekmmaaGreatDoorFLaid
import Derived.Test.YtifjbbiphekmmaaGreatDoorTie
import Derived.Test.YtifjbbiphekmmaaGreatDoorCards
import Derived.Test.YtifjbbiphekmmaaGreatDoorFMatch
import Derived.Test.YtifjbbiphekmmaaGreatDoorFSame
import Derived.Test.YtifjbbiphekmmaaGreatDoorFLight
import Derived.Test.YtifjbbiphekmmaaGreatDoorFMeet
import Derived.ShutString
import Derived.ChangeOld
import Derived.SevenTiedAt
/-
  Contract of the document's Show.
-/
namespace Go.Proofs.YtifjbbiphekmmaaGreatDoor
open Go.RowKit Go.Lib
set_option linter.unusedVariables false
set_option linter.unusedSimpArgs false

theorem join_snoc : ∀ {l : List Tx} (v : Tx), l ≠ [] → joinC (l ++ [v]) = joinC l ++ 44 :: v
  | [x], v, _ => rfl
  | x :: y :: l, v, _ => by
    show x ++ 44 :: joinC (y :: l ++ [v]) = _
    rw [join_snoc (l := y :: l) v (by simp)]
    show _ = (x ++ 44 :: joinC (y :: l)) ++ 44 :: v
    simp
/-- A term's text up to its i-th value. -/
def partT (pre : Tx) (l : List Tx) (i : Nat) : Tx := if i = 0 then pre else pre ++ 40 :: joinC (l.take i)
theorem part_one {pre : Tx} {l : List Tx} (h : 0 < l.length) : partT pre l 1 = (pre ++ [40]) ++ l.getD 0 [] := by
  unfold partT
  rw [if_neg (by decide), getD_get h, List.take_succ_eq_append_getElem h]
  simp [joinC]
theorem part_more {pre : Tx} {l : List Tx} {i : Nat} (h : i < l.length) (h0 : i ≠ 0) : partT pre l (i + 1) = (partT pre l i ++ [44]) ++ l.getD i [] := by
  unfold partT
  rw [if_neg (by omega), if_neg h0, getD_get h, List.take_succ_eq_append_getElem h, join_snoc _ (by intro e; have := congrArg List.length e; rw [List.length_take] at this; simp at this; rcases this with k | k; exact h0 k; rw [k] at h; simp at h)]
  simp
theorem part_len {t : Trm} (h : rightT t) {pre : Tx} (hp : pre.length ≤ 66) (i : Nat) : (partT pre t.2.2 i).length ≤ 2000 := by
  unfold partT
  split
  · omega
  · have h1 := join_len_one (v := []) (K := 64) (l := t.2.2.take i) (fun x hx => (word_len (h.2.2 x (List.mem_of_mem_take hx))).2)
    have h2 := h.1
    have h3 : (t.2.2.take i).length ≤ 16 := by rw [List.length_take]; omega
    have h4 : (t.2.2.take i).length * (64 + 1) ≤ 16 * 65 := Nat.mul_le_mul h3 (Nat.le_refl _)
    simp; omega
theorem part_end {n : Tx} {b : Bool} {l : List Tx} (h : 1 < l.length) : partT (n ++ signT b) l l.length ++ [41] = textT (n, b, l) := by
  unfold partT textT listT
  rw [if_neg (by omega), if_pos h, List.take_of_length_le (Nat.le_refl _)]
  simp
theorem text_none {n : Tx} {b : Bool} {l : List Tx} (h : l.length = 0) : n ++ signT b = textT (n, b, l) := by
  have : l = [] := List.eq_nil_of_length_eq_zero h
  subst this
  unfold textT listT
  simp [joinC]
theorem text_one {n : Tx} {b : Bool} {l : List Tx} (h : l.length = 1) : (n ++ signT b) ++ l.getD 0 [] = textT (n, b, l) := by
  match l, h with
  | [v], _ => unfold textT listT; simp [joinC]
theorem sign_0 (nm : Tx) : bs nm ++ (⟨#[61]⟩ : ByteArray) = bs (nm ++ signT false) := by
  rw [show (⟨#[61]⟩ : ByteArray) = bs [61] from rfl, bs_app]; rfl
theorem sign_1 (nm : Tx) : bs nm ++ (⟨#[33, 61]⟩ : ByteArray) = bs (nm ++ signT true) := by
  rw [show (⟨#[33, 61]⟩ : ByteArray) = bs [33, 61] from rfl, bs_app]; rfl
theorem app_40 (a v : Tx) : bs a ++ (⟨#[40]⟩ : ByteArray) ++ bs v = bs ((a ++ [40]) ++ v) := by
  rw [show (⟨#[40]⟩ : ByteArray) = bs [40] from rfl, bs_app, bs_app]
theorem app_44 (a v : Tx) : bs a ++ (⟨#[44]⟩ : ByteArray) ++ bs v = bs ((a ++ [44]) ++ v) := by
  rw [show (⟨#[44]⟩ : ByteArray) = bs [44] from rfl, bs_app, bs_app]
theorem app_41 (a : Tx) : bs a ++ (⟨#[41]⟩ : ByteArray) = bs (a ++ [41]) := by
  rw [show (⟨#[41]⟩ : ByteArray) = bs [41] from rfl, bs_app]
theorem rright10_x (nm : Tx) (ng : Bool) (ad : Option Addr) (n c : Nat) (vs : List Tx) (W : World) (h : TxAt W ad n c vs) (h1 : nm.length ≤ 1000000) (h2 : ∀ v ∈ vs, v.length ≤ 1000000) (h3 : n ≤ 1000000) :
    Calls Tryz.prog 15 #[.agg #[.string (bs nm), .bool ng, .slice ad n c]] W fun r w' => r = .returned (.bool (decide (rightT (nm, ng, vs)))) ∧ Below W.heap.size W w' := rright10_any ⟨nm, ng, ad, n, c, vs⟩ W h h1 h2 h3

set_option maxHeartbeats 4000000 in
theorem rshow10_any (e : TmT) (w : World) (h : TmOk w e) (h1 : e.name.length ≤ 1000000) (h2 : ∀ v ∈ e.l, v.length ≤ 1000000) (h3 : e.n ≤ 1000000) :
    Calls Tryz.prog 12 #[tmV e] w fun r w' => r = .returned (.string (bs (showT e.trm))) ∧ Below w.heap.size w w' := by
  obtain ⟨nm, ng, a, n, c, l⟩ := e
  have HS := Lib.hid (show TxAt w a n c l from h)
  have hlen : l.length = n := h.1
  have h63 := h.2.2.1
  clear h
  unfold tmV
  have X0 := Lib.hid (BoxT.new 30 w ⟨nm, ng, a, n, c, l⟩)
  have B0 := Lib.hid ((Below.refl w.heap.size w).alloc (Nat.le_refl _) (.cells #[.string (bs nm), .bool ng, .slice a n c] 30))
  have HS0 := Lib.hid (HS.out.keep B0.out)
  simp only at X0 h63 h1 h2 h3 ⊢
  have HR := Lib.hid (rright10_x nm ng a n c l _ HS0.out h1 h2 h3)
  show Calls _ _ _ _ fun r w' => r = .returned (.string (bs (showT (nm, ng, l)))) ∧ Below w.heap.size w w'
  by_cases hr : rightT (nm, ng, l)
  · rw [decide_eq_true hr] at HR
    have HN := Lib.hid (show_right hr)
    have hn16 : n ≤ 16 := by have := hr.1; simp only at this; omega
    have hsn : (bs nm).size ≤ 64 := by rw [bs_size]; exact (word_len hr.2.1).2
    have HPL := Lib.hid (fun pre (hp : pre.length ≤ 66) i => part_len hr (pre := pre) hp i)
    have HVL := Lib.hid (fun i (hi : i < l.length) => (word_len (hr.2.2 _ (getD_in hi))).2)
    have HLEN := Lib.hid hlen
    have HPRE := Lib.hid (show (nm ++ signT ng).length ≤ 66 by have h64 : nm.length ≤ 64 := (word_len hr.2.1).2; rw [List.length_append]; cases ng <;> simp [signT] <;> omega)
    clear hr hlen HS h1 h2 h3
    have g1 : ¬ 9223372036854775807 < (bs nm).size + 1 := by omega
    have g2 : ¬ 9223372036854775807 < (bs nm).size + 2 := by omega
    cases ng
    · go_enter Tryz.func12, Tryz.ntmps12
      go_wp2_with fail
      generalize w.alloc (.cells #[.string (bs nm), .bool false, .slice a n c] 30) = W0 at *
      refine HR.out.mono ?_
      rintro e w1 ⟨rfl, hb⟩
      have X1 := Lib.hid (X0.out.keep hb)
      have B1 := Lib.hid (B0.out.trans (hb.mono B0.out.size))
      have HS1 := Lib.hid (HS0.out.keep hb)
      clear X0 B0 HS0 hb HR
      have x0 := X1.out.x0
      have x1 := X1.out.x1
      have x2 := X1.out.x2
      simp only at x0 x1 x2
      by_cases k0 : n = 0
      · have z0 : ((n : Int) == 0) = true := beq_iff_eq.2 (by omega)
        have HTX := Lib.hid (fun b => text_none (n := nm) (b := b) (l := l) (by rw [HLEN.out]; exact k0))
        clear k0
        go_wp2
        go_ret
        refine ⟨?_, B1.out⟩
        rw [HN.out, ← HTX.out]
        first
          | exact congrArg (fun x => Ending.returned (.string x)) (sign_0 nm)
          | exact congrArg (fun x => Ending.returned (.string x)) (sign_1 nm)
      · have z0 : ((n : Int) == 0) = false := beq_eq_false_iff_ne.2 (by omega)
        by_cases k1 : n = 1
        · have z1 : ((n : Int) == 1) = true := beq_iff_eq.2 (by omega)
          have HTX := Lib.hid (fun b => text_one (n := nm) (b := b) (l := l) (by rw [HLEN.out]; exact k1))
          obtain ⟨p, o, rfl, hp, y0⟩ := HS1.out.at_ 0 (by omega)
          have hv := HVL.out 0 (by rw [HLEN.out]; omega)
          have hv2 : (bs (l.getD 0 [])).size ≤ 64 := by rw [bs_size]; exact hv
          have hn0 : (0 : Int) < (n : Int) := by omega
          rw [Nat.add_zero] at y0
          generalize l.getD 0 [] = v at *
          have g3 : ¬ 9223372036854775807 < (bs nm).size + 1 + (bs v).size := by omega
          have g4 : ¬ 9223372036854775807 < (bs nm).size + 2 + (bs v).size := by omega
          clear k0 k1 hv
          go_wp2
          go_ret
          refine ⟨?_, B1.out⟩
          rw [HN.out, ← HTX.out]
          first
            | exact congrArg (fun x => Ending.returned (.string x)) ((congrArg (fun x => x ++ bs v) (sign_0 nm)).trans (bs_app _ _))
            | exact congrArg (fun x => Ending.returned (.string x)) ((congrArg (fun x => x ++ bs v) (sign_1 nm)).trans (bs_app _ _))
        · have z1 : ((n : Int) == 1) = false := beq_eq_false_iff_ne.2 (by omega)
          have HTX := Lib.hid (fun b => part_end (n := nm) (b := b) (l := l) (by rw [HLEN.out]; omega))
          go_wp2_with fail
          go_loopw [3, 5] (fun sv i wr => ∃ j : Nat, j ≤ n ∧ i = .int .i64 (j : Int) ∧ sv = .string (bs (partT (nm ++ signT false) l j)) ∧ w1 = wr) (fun _ i _ => n - (intOf i).toNat)
          case atStart =>
            refine ⟨0, by omega, rfl, ?_, rfl⟩
            first
              | exact congrArg Value.string (sign_0 nm)
              | exact congrArg Value.string (sign_1 nm)
          case round =>
            obtain ⟨j, hj, rfl, rfl, rfl⟩ := hrel
            obtain ⟨pre, hpre⟩ : ∃ pre, nm ++ signT false = pre := ⟨_, rfl⟩
            rw [hpre] at HPRE
            have HTX := Lib.hid (HTX.out false)
            rw [hpre] at HTX ⊢
            have HPR := Lib.hid hpre
            clear hpre
            have hpl := HPL.out _ HPRE.out j
            have hps : (bs (partT pre l j)).size ≤ 2000 := by rw [bs_size]; exact hpl
            by_cases hjn : j < n
            · obtain ⟨p, o, rfl, hp, y0⟩ := HS1.out.at_ j hjn
              have hv := HVL.out j (by rw [HLEN.out]; exact hjn)
              have hv2 : (bs (l.getD j [])).size ≤ 64 := by rw [bs_size]; exact hv
              by_cases hj0 : j = 0
              · have HP := Lib.hid (show partT pre l (j + 1) = (partT pre l j ++ [40]) ++ l.getD j [] by subst hj0; exact part_one (by rw [HLEN.out]; exact hjn))
                have HQ := Lib.hid ((app_40 (partT pre l j) (l.getD j [])).trans (congrArg bs HP.out.symm))
                have z2 : ((j : Int) == 0) = true := beq_iff_eq.2 (by omega)
                generalize l.getD j [] = v at *
                generalize partT pre l j = P at *
                have g5 : ¬ 9223372036854775807 < (bs P).size + 1 := by omega
                have g6 : ¬ 9223372036854775807 < (bs P).size + 1 + (bs v).size := by omega
                clear hj0 HP hv hpl
                go_wp2
                go_roundw
                case rel => exact ⟨j + 1, by omega, by go_num, by exact congrArg Value.string HQ.out, trivial⟩
                case measure => simp [intOf]; omega
              · have HP := Lib.hid (show partT pre l (j + 1) = (partT pre l j ++ [44]) ++ l.getD j [] from part_more (by rw [HLEN.out]; exact hjn) hj0)
                have HQ := Lib.hid ((app_44 (partT pre l j) (l.getD j [])).trans (congrArg bs HP.out.symm))
                have z2 : ((j : Int) == 0) = false := beq_eq_false_iff_ne.2 (by omega)
                generalize l.getD j [] = v at *
                generalize partT pre l j = P at *
                have g5 : ¬ 9223372036854775807 < (bs P).size + 1 := by omega
                have g6 : ¬ 9223372036854775807 < (bs P).size + 1 + (bs v).size := by omega
                clear hj0 HP hv hpl
                go_wp2
                go_roundw
                case rel => exact ⟨j + 1, by omega, by go_num, by exact congrArg Value.string HQ.out, trivial⟩
                case measure => simp [intOf]; omega
            · obtain rfl : j = n := by omega
              have HE := Lib.hid ((app_41 (partT pre l j)).trans (congrArg bs (show partT pre l j ++ [41] = textT (nm, false, l) by rw [← HTX.out, HLEN.out])))
              generalize partT pre l j = P at *
              have g5 : ¬ 9223372036854775807 < (bs P).size + 1 := by omega
              go_wp2
              go_ret
              refine ⟨?_, B1.out⟩
              rw [HN.out]
              exact congrArg (fun x => Ending.returned (.string x)) HE.out
    · go_enter Tryz.func12, Tryz.ntmps12
      go_wp2_with fail
      generalize w.alloc (.cells #[.string (bs nm), .bool true, .slice a n c] 30) = W0 at *
      refine HR.out.mono ?_
      rintro e w1 ⟨rfl, hb⟩
      have X1 := Lib.hid (X0.out.keep hb)
      have B1 := Lib.hid (B0.out.trans (hb.mono B0.out.size))
      have HS1 := Lib.hid (HS0.out.keep hb)
      clear X0 B0 HS0 hb HR
      have x0 := X1.out.x0
      have x1 := X1.out.x1
      have x2 := X1.out.x2
      simp only at x0 x1 x2
      by_cases k0 : n = 0
      · have z0 : ((n : Int) == 0) = true := beq_iff_eq.2 (by omega)
        have HTX := Lib.hid (fun b => text_none (n := nm) (b := b) (l := l) (by rw [HLEN.out]; exact k0))
        clear k0
        go_wp2
        go_ret
        refine ⟨?_, B1.out⟩
        rw [HN.out, ← HTX.out]
        first
          | exact congrArg (fun x => Ending.returned (.string x)) (sign_0 nm)
          | exact congrArg (fun x => Ending.returned (.string x)) (sign_1 nm)
      · have z0 : ((n : Int) == 0) = false := beq_eq_false_iff_ne.2 (by omega)
        by_cases k1 : n = 1
        · have z1 : ((n : Int) == 1) = true := beq_iff_eq.2 (by omega)
          have HTX := Lib.hid (fun b => text_one (n := nm) (b := b) (l := l) (by rw [HLEN.out]; exact k1))
          obtain ⟨p, o, rfl, hp, y0⟩ := HS1.out.at_ 0 (by omega)
          have hv := HVL.out 0 (by rw [HLEN.out]; omega)
          have hv2 : (bs (l.getD 0 [])).size ≤ 64 := by rw [bs_size]; exact hv
          have hn0 : (0 : Int) < (n : Int) := by omega
          rw [Nat.add_zero] at y0
          generalize l.getD 0 [] = v at *
          have g3 : ¬ 9223372036854775807 < (bs nm).size + 1 + (bs v).size := by omega
          have g4 : ¬ 9223372036854775807 < (bs nm).size + 2 + (bs v).size := by omega
          clear k0 k1 hv
          go_wp2
          go_ret
          refine ⟨?_, B1.out⟩
          rw [HN.out, ← HTX.out]
          first
            | exact congrArg (fun x => Ending.returned (.string x)) ((congrArg (fun x => x ++ bs v) (sign_0 nm)).trans (bs_app _ _))
            | exact congrArg (fun x => Ending.returned (.string x)) ((congrArg (fun x => x ++ bs v) (sign_1 nm)).trans (bs_app _ _))
        · have z1 : ((n : Int) == 1) = false := beq_eq_false_iff_ne.2 (by omega)
          have HTX := Lib.hid (fun b => part_end (n := nm) (b := b) (l := l) (by rw [HLEN.out]; omega))
          go_wp2_with fail
          go_loopw [3, 5] (fun sv i wr => ∃ j : Nat, j ≤ n ∧ i = .int .i64 (j : Int) ∧ sv = .string (bs (partT (nm ++ signT true) l j)) ∧ w1 = wr) (fun _ i _ => n - (intOf i).toNat)
          case atStart =>
            refine ⟨0, by omega, rfl, ?_, rfl⟩
            first
              | exact congrArg Value.string (sign_0 nm)
              | exact congrArg Value.string (sign_1 nm)
          case round =>
            obtain ⟨j, hj, rfl, rfl, rfl⟩ := hrel
            obtain ⟨pre, hpre⟩ : ∃ pre, nm ++ signT true = pre := ⟨_, rfl⟩
            rw [hpre] at HPRE
            have HTX := Lib.hid (HTX.out true)
            rw [hpre] at HTX ⊢
            have HPR := Lib.hid hpre
            clear hpre
            have hpl := HPL.out _ HPRE.out j
            have hps : (bs (partT pre l j)).size ≤ 2000 := by rw [bs_size]; exact hpl
            by_cases hjn : j < n
            · obtain ⟨p, o, rfl, hp, y0⟩ := HS1.out.at_ j hjn
              have hv := HVL.out j (by rw [HLEN.out]; exact hjn)
              have hv2 : (bs (l.getD j [])).size ≤ 64 := by rw [bs_size]; exact hv
              by_cases hj0 : j = 0
              · have HP := Lib.hid (show partT pre l (j + 1) = (partT pre l j ++ [40]) ++ l.getD j [] by subst hj0; exact part_one (by rw [HLEN.out]; exact hjn))
                have HQ := Lib.hid ((app_40 (partT pre l j) (l.getD j [])).trans (congrArg bs HP.out.symm))
                have z2 : ((j : Int) == 0) = true := beq_iff_eq.2 (by omega)
                generalize l.getD j [] = v at *
                generalize partT pre l j = P at *
                have g5 : ¬ 9223372036854775807 < (bs P).size + 1 := by omega
                have g6 : ¬ 9223372036854775807 < (bs P).size + 1 + (bs v).size := by omega
                clear hj0 HP hv hpl
                go_wp2
                go_roundw
                case rel => exact ⟨j + 1, by omega, by go_num, by exact congrArg Value.string HQ.out, trivial⟩
                case measure => simp [intOf]; omega
              · have HP := Lib.hid (show partT pre l (j + 1) = (partT pre l j ++ [44]) ++ l.getD j [] from part_more (by rw [HLEN.out]; exact hjn) hj0)
                have HQ := Lib.hid ((app_44 (partT pre l j) (l.getD j [])).trans (congrArg bs HP.out.symm))
                have z2 : ((j : Int) == 0) = false := beq_eq_false_iff_ne.2 (by omega)
                generalize l.getD j [] = v at *
                generalize partT pre l j = P at *
                have g5 : ¬ 9223372036854775807 < (bs P).size + 1 := by omega
                have g6 : ¬ 9223372036854775807 < (bs P).size + 1 + (bs v).size := by omega
                clear hj0 HP hv hpl
                go_wp2
                go_roundw
                case rel => exact ⟨j + 1, by omega, by go_num, by exact congrArg Value.string HQ.out, trivial⟩
                case measure => simp [intOf]; omega
            · obtain rfl : j = n := by omega
              have HE := Lib.hid ((app_41 (partT pre l j)).trans (congrArg bs (show partT pre l j ++ [41] = textT (nm, true, l) by rw [← HTX.out, HLEN.out])))
              generalize partT pre l j = P at *
              have g5 : ¬ 9223372036854775807 < (bs P).size + 1 := by omega
              go_wp2
              go_ret
              refine ⟨?_, B1.out⟩
              rw [HN.out]
              exact congrArg (fun x => Ending.returned (.string x)) HE.out
  · rw [decide_eq_false hr] at HR
    have HN := Lib.hid (show showT (nm, ng, l) = [] from if_neg hr)
    clear hr hlen HS
    go_enter Tryz.func12, Tryz.ntmps12
    go_wp2_with fail
    refine HR.out.mono ?_
    rintro e w1 ⟨rfl, hb⟩
    have B1 := Lib.hid (B0.out.trans (hb.mono B0.out.size))
    go_wp2
    go_ret
    exact ⟨by rw [HN.out]; rfl, B1.out⟩
end Go.Proofs.YtifjbbiphekmmaaGreatDoor
/-
  Contract of the document's Match.
-/
namespace Go.Proofs.YtifjbbiphekmmaaGreatDoor
open Go.RowKit
set_option linter.unusedVariables false
set_option linter.unusedSimpArgs false

theorem drew_cell {W0 wr : World} (h : Drew W0 wr) (k : Nat) (a : Addr) (v : Value) (e : W0.cell? a = some v) : (wr.drewN k).cell? a = some v := by
  obtain ⟨q, rfl⟩ := h; exact e
theorem look_drop_hit {L : List Lb} {j : Nat} {nm : Tx} (h : j < L.length) (e : lN L j = nm) : look (L.drop j) nm = some (lV L j) := by
  rw [List.drop_eq_getElem_cons h, lb_get h]
  unfold look
  rw [if_pos e]
theorem look_drop_miss {L : List Lb} {j : Nat} {nm : Tx} (h : j < L.length) (e : ¬ lN L j = nm) : look (L.drop j) nm = look (L.drop (j + 1)) nm := by
  rw [List.drop_eq_getElem_cons h, lb_get h]
  conv => lhs; unfold look
  rw [if_neg e]

set_option maxHeartbeats 2000000 in
theorem rmatch10_any (e : TmT) (la : Option Addr) (ln lc : Nat) (L : List Lb) (w : World) (h : TmOk w e) (hl : LbAt w la ln lc L) :
    Calls Tryz.prog 21 #[tmV e, .slice la ln lc] w fun r w' => r = .returned (.bool (matchT e.trm L)) ∧ Below w.heap.size w w' := by
  obtain ⟨nm, ng, a, n, c, l⟩ := e
  have HS := Lib.hid (show TxAt w a n c l from h)
  have hlen : l.length = n := h.1
  have hll : L.length = ln := hl.1
  have HLL := Lib.hid hll
  have h63 := h.2.2.1
  have hl63 := hl.2.2.1
  have X0 := Lib.hid (BoxT.new 30 w ⟨nm, ng, a, n, c, l⟩)
  have B0 := Lib.hid ((Below.refl w.heap.size w).alloc (Nat.le_refl _) (.cells #[.string (bs nm), .bool ng, .slice a n c] 30))
  have HLB := Lib.hid (hl.keep B0.out)
  have HS0 := Lib.hid (HS.out.keep B0.out)
  have HE := Lib.hid (show n = 0 ↔ l.isEmpty = true by rw [List.isEmpty_iff, ← hlen]; exact List.length_eq_zero_iff)
  clear h hl hlen hll HS
  unfold tmV
  simp only at X0 ⊢
  go_enter Tryz.func21, Tryz.ntmps21
  go_wp2_with fail
  generalize w.alloc (.cells #[.string (bs nm), .bool ng, .slice a n c] 30) = W0 at *
  have x0 : ∀ q, (W0.drewN q).cell? ⟨w.heap.size, 0, none⟩ = _ := fun q => X0.out.x0
  have x1 : ∀ q, (W0.drewN q).cell? ⟨w.heap.size, 1, none⟩ = _ := fun q => X0.out.x1
  have x2 : ∀ q, (W0.drewN q).cell? ⟨w.heap.size, 2, none⟩ = _ := fun q => X0.out.x2
  simp only at x0 x1 x2
  have BD := Lib.hid (fun W (d : Drew W0 W) => B0.out.trans (d.bel.mono B0.out.size))
  clear X0 B0
  go_loopw [5] (fun i wr => ∃ j : Nat, j ≤ ln ∧ i = .int .i64 (j : Int) ∧ Hid (look L nm = look (L.drop j) nm) ∧ Hid (Drew W0 wr)) (fun i _ => ln - (intOf i).toNat)
  case atStart => exact ⟨0, by omega, rfl, Lib.hid rfl, Lib.hid ⟨0, rfl⟩⟩
  case round =>
    obtain ⟨j, hj, rfl, HK, HD⟩ := hrel
    have HX := Lib.hid (drew_cell HD.out)
    have v0 : ∀ q, (wr.drewN q).cell? ⟨w.heap.size, 0, none⟩ = _ := fun q => HX.out q _ _ (x0 0)
    have v1 : ∀ q, (wr.drewN q).cell? ⟨w.heap.size, 1, none⟩ = _ := fun q => HX.out q _ _ (x1 0)
    have v2 : ∀ q, (wr.drewN q).cell? ⟨w.heap.size, 2, none⟩ = _ := fun q => HX.out q _ _ (x2 0)
    have u0 : wr.cell? ⟨w.heap.size, 0, none⟩ = _ := v0 0
    have u1 : wr.cell? ⟨w.heap.size, 1, none⟩ = _ := v1 0
    have u2 : wr.cell? ⟨w.heap.size, 2, none⟩ = _ := v2 0
    by_cases hjn : j < ln
    · obtain ⟨pb, po, rfl, hpb, y0, y1⟩ := HLB.out.at_ j hjn
      have z0 : ∀ q, (wr.drewN q).cell? ⟨pb, po + j * 2, none⟩ = _ := fun q => HX.out q _ _ y0
      have z1 : ∀ q, (wr.drewN q).cell? ⟨pb, po + j * 2 + 1, none⟩ = _ := fun q => HX.out q _ _ y1
      have he := eq_bs (lN L j) nm
      by_cases hc : lN L j = nm
      · rw [decide_eq_true hc] at he
        have HM : Hid (matchT (nm, ng, l) L = if l.isEmpty then ng else decide (lV L j ∈ l) != ng) := Lib.hid (by unfold matchT; rw [HK.out, look_drop_hit (by rw [HLL.out]; exact hjn) hc])
        clear HK hc
        by_cases h0 : n = 0
        · have HL := Lib.hid (HE.out.1 h0)
          have hz : ((n : Int) == 0) = true := beq_iff_eq.2 (by omega)
          clear h0
          generalize bs (lN L j) = ln2 at *
          go_wp2_with fail
          go_quiet (fail)
          go_wp2
          go_ret
          exact ⟨ret_bool (by show _ = matchT (nm, _, l) L; rw [HM.out, HL.out]; rfl), BD.out _ (HD.out.trans ⟨_, rfl⟩)⟩
        · have HL := Lib.hid (show l.isEmpty = false from Bool.eq_false_iff.2 fun e => h0 (HE.out.2 e))
          have hz : ((n : Int) == 0) = false := beq_eq_false_iff_ne.2 (by omega)
          clear h0
          have HQ := Lib.hid (fun W (d : Drew W0 W) => rhas8_any a n c l (lV L j) W (HS0.out.keep d.bel))
          generalize decide (lV L j ∈ l) = r at *
          generalize bs (lN L j) = ln2 at *
          generalize lV L j = vl at *
          go_wp2_with fail
          go_quiet (fail)
          go_wp2_with fail
          have D1 := Lib.hid (HD.out.trans (⟨nq, rfl⟩ : Drew wr (wr.drewN nq)))
          have HX1 := Lib.hid (drew_cell D1.out)
          generalize wr.drewN nq = W1 at *
          have w1 : ∀ q, (W1.drewN q).cell? ⟨w.heap.size, 1, none⟩ = _ := fun q => HX1.out q _ _ (x1 0)
          have w2 : ∀ q, (W1.drewN q).cell? ⟨w.heap.size, 2, none⟩ = _ := fun q => HX1.out q _ _ (x2 0)
          have w3 : ∀ q, (W1.drewN q).cell? ⟨pb, po + j * 2 + 1, none⟩ = _ := fun q => HX1.out q _ _ y1
          have HQ1 := Lib.hid (fun q => HQ.out (W1.drewN q) (D1.out.trans ⟨q, rfl⟩))
          clear x0 x1 x2 v0 v1 v2 u0 u1 u2 z0 z1
          cases ng
          all_goals
            go_quiet (with_reducible exact quietL (HQ1.out _))
            go_wp2
            go_ret
            exact ⟨ret_bool (by show _ = matchT (nm, _, l) L; rw [HM.out, HL.out]; cases r <;> rfl), BD.out _ (D1.out.trans ⟨_, rfl⟩)⟩
      · rw [decide_eq_false hc] at he
        have HN := Lib.hid (HK.out.trans (look_drop_miss (by rw [HLL.out]; exact hjn) hc))
        clear HK hc y0 y1
        generalize bs (lN L j) = ln2 at *
        go_wp2_with fail
        go_quiet (fail)
        go_wp2
        go_roundw
        case rel => exact ⟨j + 1, by omega, by go_num, HN, Lib.hid (HD.out.trans ⟨_, rfl⟩)⟩
        case measure => simp [intOf]; omega
    · have HM : Hid (matchT (nm, ng, l) L = (ng == !l.isEmpty)) := Lib.hid (by unfold matchT; rw [HK.out, List.drop_of_length_le (by rw [HLL.out]; omega)]; rfl)
      have hlt : ¬ (j : Int) < (ln : Int) := by omega
      by_cases h0 : n = 0
      · have HL := Lib.hid (HE.out.1 h0)
        have hz : decide ((0 : Int) < (n : Int)) = false := decide_eq_false (by omega)
        have HZ : Hid (decide (0 < n) = false) := Lib.hid (decide_eq_false (by omega))
        clear h0 HK
        cases ng
        all_goals
          go_wp2
          go_ret
          exact ⟨ret_bool (by show _ = matchT (nm, _, l) L; rw [HM.out, HL.out]; first | rfl | (rw [HZ.out]; rfl)), BD.out _ HD.out⟩
      · have HL := Lib.hid (show l.isEmpty = false from Bool.eq_false_iff.2 fun e => h0 (HE.out.2 e))
        have hz : decide ((0 : Int) < (n : Int)) = true := decide_eq_true (by omega)
        have HZ : Hid (decide (0 < n) = true) := Lib.hid (decide_eq_true (by omega))
        clear h0 HK
        cases ng
        all_goals
          go_wp2
          go_ret
          exact ⟨ret_bool (by show _ = matchT (nm, _, l) L; rw [HM.out, HL.out]; first | rfl | (rw [HZ.out]; rfl)), BD.out _ HD.out⟩
end Go.Proofs.YtifjbbiphekmmaaGreatDoor
namespace Go.Proofs.YtifjbbiphekmmaaGreatDoor
namespace filterTells
open Go.ChangeShapes Go.WideShapes Go.ChangeAt Go.RowKit
open Go.ChangeMaps (open_string shut_string)
set_option linter.unusedVariables false
set_option linter.unusedSimpArgs false

theorem own : ownKnob Tryz.prog.godebug = none := by kernel_rfl

set_option maxRecDepth 100000 in
set_option maxHeartbeats 16000000 in
theorem walk (a b : TmT) (la : Option Addr) (ln lc : Nat) (L : List Lb) (w : World) (ha : TmOk w a) (hb : TmOk w b) (hl : LbAt w la ln lc L) :
    Calls Tryz.prog 3 #[tmV a, tmV b, .slice la ln lc] w fun e w' => e = .returned (.bool true) ∧ Below w.heap.size w w' := by
  obtain ⟨nm, ng, aa, n, c, l⟩ := a
  obtain ⟨nm2, ng2, aa2, n2, c2, l2⟩ := b
  have B := Lib.hid (((Below.refl w.heap.size w).alloc (Nat.le_refl _) (.cells #[.string (bs nm), .bool ng, .slice aa n c] 24)).alloc (by rw [World.alloc]; simp) (.cells #[.string (bs nm2), .bool ng2, .slice aa2 n2 c2] 24))
  have hs : (w.alloc (.cells #[.string (bs nm), .bool ng, .slice aa n c] 24)).heap.size = w.heap.size + 1 := by rw [World.alloc]; simp
  have X1 : Hid (BoxT 24 ((w.alloc (.cells #[.string (bs nm), .bool ng, .slice aa n c] 24)).alloc (.cells #[.string (bs nm2), .bool ng2, .slice aa2 n2 c2] 24)) w.heap.size ⟨nm, ng, aa, n, c, l⟩) := Lib.hid (BoxT.keep (show BoxT 24 (w.alloc (.cells #[.string (bs nm), .bool ng, .slice aa n c] 24)) w.heap.size ⟨nm, ng, aa, n, c, l⟩ from heap_new w _) ((Below.refl _ _).alloc (Nat.le_refl _) _))
  have X2 : Hid (BoxT 24 ((w.alloc (.cells #[.string (bs nm), .bool ng, .slice aa n c] 24)).alloc (.cells #[.string (bs nm2), .bool ng2, .slice aa2 n2 c2] 24)) (w.heap.size + 1) ⟨nm2, ng2, aa2, n2, c2, l2⟩) := Lib.hid (hs ▸ (show BoxT 24 ((w.alloc (.cells #[.string (bs nm), .bool ng, .slice aa n c] 24)).alloc (.cells #[.string (bs nm2), .bool ng2, .slice aa2 n2 c2] 24)) (w.alloc (.cells #[.string (bs nm), .bool ng, .slice aa n c] 24)).heap.size ⟨nm2, ng2, aa2, n2, c2, l2⟩ from heap_new _ _))
  have TA := Lib.hid (ha.keep B.out)
  have TB := Lib.hid (hb.keep B.out)
  have TL := Lib.hid (hl.keep B.out)
  have hll := Lib.hid hl.1
  clear ha hb hl
  unfold tmV
  simp only
  go_enter Tryz.func3, Tryz.ntmps3
  go_wp2_with fail
  generalize (w.alloc (.cells #[.string (bs nm), .bool ng, .slice aa n c] 24)).alloc (.cells #[.string (bs nm2), .bool ng2, .slice aa2 n2 c2] 24) = W1 at *
  clear hs
  generalize hk1 : w.heap.size + 1 = k2 at *
  clear hk1
  
  have C := light10_any ⟨nm, ng, aa, n, c, l⟩ W1 TA.out
  by_cases hA : lightT ⟨nm, ng, aa, n, c, l⟩
  · rw [decide_eq_true hA] at C
    refine C.mono ?_
    clear C
    have HA := Lib.hid hA
    clear hA
    rintro e W2 ⟨rfl, br⟩
    replace X1 := Lib.hid (X1.out.keep br)
    replace X2 := Lib.hid (X2.out.keep br)
    replace TA := Lib.hid (TA.out.keep br)
    replace TB := Lib.hid (TB.out.keep br)
    replace TL := Lib.hid (TL.out.keep br)
    replace B := Lib.hid (B.out.trans (br.mono B.out.size))
    clear br
    have y0 := X2.out.x0
    have y1 := X2.out.x1
    have y2 := X2.out.x2
    simp only at y0 y1 y2
    go_wp2_with fail
    have C := light10_any ⟨nm2, ng2, aa2, n2, c2, l2⟩ W2 TB.out
    clear y0 y1 y2
    by_cases hB : lightT ⟨nm2, ng2, aa2, n2, c2, l2⟩
    · rw [decide_eq_true hB] at C
      refine C.mono ?_
      clear C
      have HB := Lib.hid hB
      clear hB
      rintro e W3 ⟨rfl, br⟩
      replace X1 := Lib.hid (X1.out.keep br)
      replace X2 := Lib.hid (X2.out.keep br)
      replace TA := Lib.hid (TA.out.keep br)
      replace TB := Lib.hid (TB.out.keep br)
      replace TL := Lib.hid (TL.out.keep br)
      replace B := Lib.hid (B.out.trans (br.mono B.out.size))
      clear br
      by_cases hn : ln ≤ 12
      · have hz : ¬ (12 : Int) < (ln : Int) := by omega
        have y0 := X1.out.x0
        have y1 := X1.out.x1
        have y2 := X1.out.x2
        simp only at y0 y1 y2
        have z0 := X2.out.x0
        have z1 := X2.out.x1
        have z2 := X2.out.x2
        simp only at z0 z1 z2
        go_wp2_with fail
        clear y0 y1 y2
        clear z0 z1 z2
        have HKS : Hid (∀ w' : World, Below W3.drew.heap.size W3.drew w' → w'.cell? ⟨w.heap.size, 0, none⟩ = some (.string (bs nm)) ∧ w'.cell? ⟨w.heap.size, 1, none⟩ = some (.bool ng) ∧ w'.cell? ⟨w.heap.size, 2, none⟩ = some (.slice aa n c) ∧ w'.cell? ⟨k2, 0, none⟩ = some (.string (bs nm2)) ∧ w'.cell? ⟨k2, 1, none⟩ = some (.bool ng2) ∧ w'.cell? ⟨k2, 2, none⟩ = some (.slice aa2 n2 c2)) := Lib.hid (fun w' hb => ⟨((X1.out.keep (Drew.bel (w := W3) ⟨1, rfl⟩)).keep hb).x0, ((X1.out.keep (Drew.bel (w := W3) ⟨1, rfl⟩)).keep hb).x1, ((X1.out.keep (Drew.bel (w := W3) ⟨1, rfl⟩)).keep hb).x2, ((X2.out.keep (Drew.bel (w := W3) ⟨1, rfl⟩)).keep hb).x0, ((X2.out.keep (Drew.bel (w := W3) ⟨1, rfl⟩)).keep hb).x1, ((X2.out.keep (Drew.bel (w := W3) ⟨1, rfl⟩)).keep hb).x2⟩)
        have br := Drew.bel (w := W3) (w' := W3.drew) ⟨1, rfl⟩
        replace TA := Lib.hid (TA.out.keep br)
        replace TB := Lib.hid (TB.out.keep br)
        replace TL := Lib.hid (TL.out.keep br)
        replace B := Lib.hid (B.out.trans (br.mono B.out.size))
        clear br X1 X2
        refine wp_region_held_drew (S := fun w' => w'.cell? ⟨w.heap.size, 0, none⟩ = some (.string (bs nm)) ∧ w'.cell? ⟨w.heap.size, 1, none⟩ = some (.bool ng) ∧ w'.cell? ⟨w.heap.size, 2, none⟩ = some (.slice aa n c) ∧ w'.cell? ⟨k2, 0, none⟩ = some (.string (bs nm2)) ∧ w'.cell? ⟨k2, 1, none⟩ = some (.bool ng2) ∧ w'.cell? ⟨k2, 2, none⟩ = some (.slice aa2 n2 c2)) (by as_aux_lemma => kernel_rfl) ?_ (fun hHeld => ?_)
        · exact HKS.out _ (Below.refl _ _)
        generalize W3.drew = W4 at *
        have BR := Lib.hid (Below.refl W4.heap.size W4)
        have HB1 := Lib.hid (show nm.length ≤ 1000000 ∧ (∀ v ∈ l, v.length ≤ 1000000) ∧ n ≤ 1000000 from ⟨Nat.le_trans HA.out.2.1 (by omega), fun v hv => Nat.le_trans (HA.out.2.2 v hv) (by omega), Nat.le_trans HA.out.1 (by omega)⟩)
        obtain ⟨v_sh, h_sh⟩ : ∃ v, bs (showT (nm, ng, l)) = v := ⟨_, rfl⟩
        obtain ⟨v_rt, h_rt⟩ : ∃ v, decide (rightT (nm, ng, l)) = v := ⟨_, rfl⟩
        obtain ⟨v_wd, h_wd⟩ : ∃ v, decide (wordB nm) = v := ⟨_, rfl⟩
        obtain ⟨v_sm, h_sm⟩ : ∃ v, decide ((nm, ng, l) = (nm2, ng2, l2)) = v := ⟨_, rfl⟩
        obtain ⟨v_mt, h_mt⟩ : ∃ v, matchT (nm, ng, l) L = v := ⟨_, rfl⟩
        refine op_take (i := 0) (v := ?_) rfl (by as_aux_lemma => kernel_rfl) (by as_aux_lemma => kernel_rfl) (by as_aux_lemma => kernel_rfl) (fun _ _ _ h => h) (Or.inl ⟨by rfl, ?_⟩) (by assumption) ?_
        rotate_left
        · (intro w hSw; (try dsimp only at hSw); go_simp) <;> (with_reducible rfl)
        try simp only [Act.put, List.setIfInBounds_toArray, List.set_cons_zero, List.set_cons_succ]
        refine op_take (i := 2) (v := ?_) rfl (by as_aux_lemma => kernel_rfl) (by as_aux_lemma => kernel_rfl) (by as_aux_lemma => kernel_rfl) (fun _ _ _ h => h) (Or.inl ⟨by rfl, ?_⟩) (by assumption) ?_
        rotate_left
        · (intro w hSw; (try dsimp only at hSw); go_simp) <;> (with_reducible rfl)
        try simp only [Act.put, List.setIfInBounds_toArray, List.set_cons_zero, List.set_cons_succ]
        refine op_one (i := 1) (by as_aux_lemma => kernel_rfl) rfl (fun K hK => ?_)
        go_simp
        have C := show10_any ⟨nm, ng, aa, n, c, l⟩ W4 (TA.out.keep BR.out)
        rw [show bs (showT (TmT.trm ⟨nm, ng, aa, n, c, l⟩)) = v_sh from h_sh] at C
        refine C.mono ?_
        clear C
        rintro e U1 ⟨rfl, br⟩
        replace BR := Lib.hid (BR.out.trans (br.mono BR.out.size))
        clear br
        try go_wp2_with fail
        refine hK.out _ _ (HKS.out _ BR.out) (fun hHeld2 => ?_)
        clear hK K
        try clear hHeld
        have hHeld := hHeld2
        clear hHeld2
        try simp only [Act.put, List.setIfInBounds_toArray, List.set_cons_zero, List.set_cons_succ]
        refine op_one (i := 3) (by as_aux_lemma => kernel_rfl) rfl (fun K hK => ?_)
        go_simp
        have C := plain10_any ⟨nm, ng, aa, n, c, l⟩ U1
        refine C.mono ?_
        clear C
        rintro e U2 ⟨rfl, br⟩
        unfold tmV
        simp only
        replace BR := Lib.hid (BR.out.trans (br.mono BR.out.size))
        clear br
        try go_wp2_with fail
        refine hK.out _ _ (HKS.out _ BR.out) (fun hHeld2 => ?_)
        clear hK K
        try clear hHeld
        have hHeld := hHeld2
        clear hHeld2
        try simp only [Act.put, List.setIfInBounds_toArray, List.set_cons_zero, List.set_cons_succ]
        refine op_one (i := 4) (by as_aux_lemma => kernel_rfl) rfl (fun K hK => ?_)
        go_simp
        have C := rshow10_any ⟨nm, ng, aa, n, c, l⟩ U2 (TA.out.keep BR.out) HB1.out.1 HB1.out.2.1 HB1.out.2.2
        rw [show bs (showT (TmT.trm ⟨nm, ng, aa, n, c, l⟩)) = v_sh from h_sh] at C
        refine C.mono ?_
        clear C
        rintro e U3 ⟨rfl, br⟩
        replace BR := Lib.hid (BR.out.trans (br.mono BR.out.size))
        clear br
        try go_wp2_with fail
        refine hK.out _ _ (HKS.out _ BR.out) (fun hHeld2 => ?_)
        clear hK K
        try clear hHeld
        have hHeld := hHeld2
        clear hHeld2
        try simp only [Act.put, List.setIfInBounds_toArray, List.set_cons_zero, List.set_cons_succ]
        refine op_take (i := 5) (v := ?_) rfl (by as_aux_lemma => kernel_rfl) (by as_aux_lemma => kernel_rfl) (by as_aux_lemma => kernel_rfl) (fun _ _ _ h => h) (Or.inl ⟨by rfl, ?_⟩) (by assumption) ?_
        rotate_left
        · (intro w hSw; (try dsimp only at hSw); go_simp) <;> (with_reducible rfl)
        try simp only [Act.put, List.setIfInBounds_toArray, List.set_cons_zero, List.set_cons_succ]
        refine op_take (i := 6) (v := ?_) rfl (by as_aux_lemma => kernel_rfl) (by as_aux_lemma => kernel_rfl) (by as_aux_lemma => kernel_rfl) (fun _ _ _ h => h) (Or.inl ⟨by rfl, ?_⟩) (by assumption) ?_
        rotate_left
        · (intro w hSw; (try dsimp only at hSw); go_simp) <;> (with_reducible rfl)
        try simp only [Act.put, List.setIfInBounds_toArray, List.set_cons_zero, List.set_cons_succ]
        refine op_take (i := 7) (v := ?_) rfl (by as_aux_lemma => kernel_rfl) (by as_aux_lemma => kernel_rfl) (by as_aux_lemma => kernel_rfl) (fun _ _ _ h => h) (Or.inl ⟨by rfl, ?_⟩) (by assumption) ?_
        rotate_left
        · (intro w hSw; (try dsimp only at hSw); go_simp) <;> (with_reducible rfl)
        try simp only [Act.put, List.setIfInBounds_toArray, List.set_cons_zero, List.set_cons_succ]
        refine op_take (i := 9) (v := ?_) rfl (by as_aux_lemma => kernel_rfl) (by as_aux_lemma => kernel_rfl) (by as_aux_lemma => kernel_rfl) (fun _ _ _ h => h) (Or.inl ⟨by rfl, ?_⟩) (by assumption) ?_
        rotate_left
        · (intro w hSw; (try dsimp only at hSw); go_simp) <;> (with_reducible rfl)
        try simp only [Act.put, List.setIfInBounds_toArray, List.set_cons_zero, List.set_cons_succ]
        refine op_one (i := 8) (by as_aux_lemma => kernel_rfl) rfl (fun K hK => ?_)
        go_simp
        have C := right10_any ⟨nm, ng, aa, n, c, l⟩ U3 (TA.out.keep BR.out)
        rw [show decide (rightT (TmT.trm ⟨nm, ng, aa, n, c, l⟩)) = v_rt from h_rt] at C
        refine C.mono ?_
        clear C
        rintro e U4 ⟨rfl, br⟩
        replace BR := Lib.hid (BR.out.trans (br.mono BR.out.size))
        clear br
        try go_wp2_with fail
        refine hK.out _ _ (HKS.out _ BR.out) (fun hHeld2 => ?_)
        clear hK K
        try clear hHeld
        have hHeld := hHeld2
        clear hHeld2
        try simp only [Act.put, List.setIfInBounds_toArray, List.set_cons_zero, List.set_cons_succ]
        refine op_one (i := 10) (by as_aux_lemma => kernel_rfl) rfl (fun K hK => ?_)
        go_simp
        have C := plain10_any ⟨nm, ng, aa, n, c, l⟩ U4
        refine C.mono ?_
        clear C
        rintro e U5 ⟨rfl, br⟩
        unfold tmV
        simp only
        replace BR := Lib.hid (BR.out.trans (br.mono BR.out.size))
        clear br
        try go_wp2_with fail
        refine hK.out _ _ (HKS.out _ BR.out) (fun hHeld2 => ?_)
        clear hK K
        try clear hHeld
        have hHeld := hHeld2
        clear hHeld2
        try simp only [Act.put, List.setIfInBounds_toArray, List.set_cons_zero, List.set_cons_succ]
        refine op_one (i := 11) (by as_aux_lemma => kernel_rfl) rfl (fun K hK => ?_)
        go_simp
        have C := rright10_any ⟨nm, ng, aa, n, c, l⟩ U5 (TA.out.keep BR.out) HB1.out.1 HB1.out.2.1 HB1.out.2.2
        rw [show decide (rightT (TmT.trm ⟨nm, ng, aa, n, c, l⟩)) = v_rt from h_rt] at C
        refine C.mono ?_
        clear C
        rintro e U6 ⟨rfl, br⟩
        replace BR := Lib.hid (BR.out.trans (br.mono BR.out.size))
        clear br
        try go_wp2_with fail
        refine hK.out _ _ (HKS.out _ BR.out) (fun hHeld2 => ?_)
        clear hK K
        try clear hHeld
        have hHeld := hHeld2
        clear hHeld2
        try simp only [Act.put, List.setIfInBounds_toArray, List.set_cons_zero, List.set_cons_succ]
        refine op_take (i := 12) (v := ?_) rfl (by as_aux_lemma => kernel_rfl) (by as_aux_lemma => kernel_rfl) (by as_aux_lemma => kernel_rfl) (fun _ _ _ h => h) (Or.inl ⟨by rfl, ?_⟩) (by assumption) ?_
        rotate_left
        · (intro w hSw; (try dsimp only at hSw); go_simp) <;> (with_reducible rfl)
        try simp only [Act.put, List.setIfInBounds_toArray, List.set_cons_zero, List.set_cons_succ]
        refine op_take (i := 13) (v := ?_) rfl (by as_aux_lemma => kernel_rfl) (by as_aux_lemma => kernel_rfl) (by as_aux_lemma => kernel_rfl) (fun _ _ _ h => h) (Or.inl ⟨by rfl, ?_⟩) (by assumption) ?_
        rotate_left
        · (intro w hSw; (try dsimp only at hSw); go_simp) <;> (with_reducible rfl)
        try simp only [Act.put, List.setIfInBounds_toArray, List.set_cons_zero, List.set_cons_succ]
        refine op_take (i := 14) (v := ?_) rfl (by as_aux_lemma => kernel_rfl) (by as_aux_lemma => kernel_rfl) (by as_aux_lemma => kernel_rfl) (fun _ _ _ h => h) (Or.inl ⟨by rfl, ?_⟩) (by assumption) ?_
        rotate_left
        · (intro w hSw; (try dsimp only at hSw); go_simp) <;> (with_reducible rfl)
        try simp only [Act.put, List.setIfInBounds_toArray, List.set_cons_zero, List.set_cons_succ]
        refine op_take (i := 15) (v := ?_) rfl (by as_aux_lemma => kernel_rfl) (by as_aux_lemma => kernel_rfl) (by as_aux_lemma => kernel_rfl) (fun _ _ _ h => h) (Or.inl ⟨by rfl, ?_⟩) (by assumption) ?_
        rotate_left
        · (intro w hSw; (try dsimp only at hSw); go_simp) <;> (with_reducible rfl)
        try simp only [Act.put, List.setIfInBounds_toArray, List.set_cons_zero, List.set_cons_succ]
        refine op_take (i := 16) (v := ?_) rfl (by as_aux_lemma => kernel_rfl) (by as_aux_lemma => kernel_rfl) (by as_aux_lemma => kernel_rfl) (fun _ _ _ h => h) (Or.inl ⟨by rfl, ?_⟩) (by assumption) ?_
        rotate_left
        · (intro w hSw; (try dsimp only at hSw); go_simp) <;> (with_reducible rfl)
        try simp only [Act.put, List.setIfInBounds_toArray, List.set_cons_zero, List.set_cons_succ]
        as_aux_lemma =>
         refine op_take (i := 18) (v := ?_) rfl (by as_aux_lemma => kernel_rfl) (by as_aux_lemma => kernel_rfl) (by as_aux_lemma => kernel_rfl) (fun _ _ _ h => h) (Or.inl ⟨by rfl, ?_⟩) (by assumption) ?_
         rotate_left
         · (intro w hSw; (try dsimp only at hSw); go_simp) <;> (with_reducible rfl)
         try simp only [Act.put, List.setIfInBounds_toArray, List.set_cons_zero, List.set_cons_succ]
         refine op_take (i := 19) (v := ?_) rfl (by as_aux_lemma => kernel_rfl) (by as_aux_lemma => kernel_rfl) (by as_aux_lemma => kernel_rfl) (fun _ _ _ h => h) (Or.inl ⟨by rfl, ?_⟩) (by assumption) ?_
         rotate_left
         · (intro w hSw; (try dsimp only at hSw); go_simp) <;> (with_reducible rfl)
         try simp only [Act.put, List.setIfInBounds_toArray, List.set_cons_zero, List.set_cons_succ]
         refine op_one (i := 17) (by as_aux_lemma => kernel_rfl) rfl (fun K hK => ?_)
         go_simp
         have C := word_any nm U6
         rw [show decide (wordB nm) = v_wd from h_wd] at C
         refine C.mono ?_
         clear C
         rintro e U7 ⟨rfl, br⟩
         replace BR := Lib.hid (BR.out.trans (br.mono BR.out.size))
         clear br
         try go_wp2_with fail
         refine hK.out _ _ (HKS.out _ BR.out) (fun hHeld2 => ?_)
         clear hK K
         try clear hHeld
         have hHeld := hHeld2
         clear hHeld2
         try simp only [Act.put, List.setIfInBounds_toArray, List.set_cons_zero, List.set_cons_succ]
         refine op_one (i := 20) (by as_aux_lemma => kernel_rfl) rfl (fun K hK => ?_)
         go_simp
         have C := rword_any nm U7 HB1.out.1
         rw [show decide (wordB nm) = v_wd from h_wd] at C
         refine C.mono ?_
         clear C
         rintro e w' ⟨rfl, rfl⟩
         try go_wp2_with fail
         refine hK.out _ _ (HKS.out _ BR.out) (fun hHeld2 => ?_)
         clear hK K
         try clear hHeld
         have hHeld := hHeld2
         clear hHeld2
         try simp only [Act.put, List.setIfInBounds_toArray, List.set_cons_zero, List.set_cons_succ]
         refine op_take (i := 21) (v := ?_) rfl (by as_aux_lemma => kernel_rfl) (by as_aux_lemma => kernel_rfl) (by as_aux_lemma => kernel_rfl) (fun _ _ _ h => h) (Or.inl ⟨by rfl, ?_⟩) (by assumption) ?_
         rotate_left
         · (intro w hSw; (try dsimp only at hSw); go_simp) <;> (with_reducible rfl)
         try simp only [Act.put, List.setIfInBounds_toArray, List.set_cons_zero, List.set_cons_succ]
         refine op_take (i := 22) (v := ?_) rfl (by as_aux_lemma => kernel_rfl) (by as_aux_lemma => kernel_rfl) (by as_aux_lemma => kernel_rfl) (fun _ _ _ h => h) (Or.inl ⟨by rfl, ?_⟩) (by assumption) ?_
         rotate_left
         · (intro w hSw; (try dsimp only at hSw); go_simp) <;> (with_reducible rfl)
         try simp only [Act.put, List.setIfInBounds_toArray, List.set_cons_zero, List.set_cons_succ]
         refine op_take (i := 23) (v := ?_) rfl (by as_aux_lemma => kernel_rfl) (by as_aux_lemma => kernel_rfl) (by as_aux_lemma => kernel_rfl) (fun _ _ _ h => h) (Or.inl ⟨by rfl, ?_⟩) (by assumption) ?_
         rotate_left
         · (intro w hSw; (try dsimp only at hSw); go_simp) <;> (with_reducible rfl)
         try simp only [Act.put, List.setIfInBounds_toArray, List.set_cons_zero, List.set_cons_succ]
         refine op_take (i := 24) (v := ?_) rfl (by as_aux_lemma => kernel_rfl) (by as_aux_lemma => kernel_rfl) (by as_aux_lemma => kernel_rfl) (fun _ _ _ h => h) (Or.inl ⟨by rfl, ?_⟩) (by assumption) ?_
         rotate_left
         · (intro w hSw; (try dsimp only at hSw); go_simp) <;> (with_reducible rfl)
         try simp only [Act.put, List.setIfInBounds_toArray, List.set_cons_zero, List.set_cons_succ]
         refine op_take (i := 25) (v := ?_) rfl (by as_aux_lemma => kernel_rfl) (by as_aux_lemma => kernel_rfl) (by as_aux_lemma => kernel_rfl) (fun _ _ _ h => h) (Or.inl ⟨by rfl, ?_⟩) (by assumption) ?_
         rotate_left
         · (intro w hSw; (try dsimp only at hSw); go_simp) <;> (with_reducible rfl)
         try simp only [Act.put, List.setIfInBounds_toArray, List.set_cons_zero, List.set_cons_succ]
         refine op_take (i := 27) (v := ?_) rfl (by as_aux_lemma => kernel_rfl) (by as_aux_lemma => kernel_rfl) (by as_aux_lemma => kernel_rfl) (fun _ _ _ h => h) (Or.inl ⟨by rfl, ?_⟩) (by assumption) ?_
         rotate_left
         · (intro w hSw; (try dsimp only at hSw); go_simp) <;> (with_reducible rfl)
         try simp only [Act.put, List.setIfInBounds_toArray, List.set_cons_zero, List.set_cons_succ]
         refine op_take (i := 29) (v := ?_) rfl (by as_aux_lemma => kernel_rfl) (by as_aux_lemma => kernel_rfl) (by as_aux_lemma => kernel_rfl) (fun _ _ _ h => h) (Or.inl ⟨by rfl, ?_⟩) (by assumption) ?_
         rotate_left
         · (intro w hSw; (try dsimp only at hSw); go_simp) <;> (with_reducible rfl)
         try simp only [Act.put, List.setIfInBounds_toArray, List.set_cons_zero, List.set_cons_succ]
         refine op_one (i := 26) (by as_aux_lemma => kernel_rfl) rfl (fun K hK => ?_)
         go_simp
         have C := same10_any ⟨nm, ng, aa, n, c, l⟩ ⟨nm2, ng2, aa2, n2, c2, l2⟩ U7 (TA.out.keep BR.out) (TB.out.keep BR.out)
         rw [show decide ((TmT.trm ⟨nm, ng, aa, n, c, l⟩) = (TmT.trm ⟨nm2, ng2, aa2, n2, c2, l2⟩)) = v_sm from h_sm] at C
         refine C.mono ?_
         clear C
         rintro e U8 ⟨rfl, br⟩
         replace BR := Lib.hid (BR.out.trans (br.mono BR.out.size))
         clear br
         try go_wp2_with fail
         refine hK.out _ _ (HKS.out _ BR.out) (fun hHeld2 => ?_)
         clear hK K
         try clear hHeld
         have hHeld := hHeld2
         clear hHeld2
         try simp only [Act.put, List.setIfInBounds_toArray, List.set_cons_zero, List.set_cons_succ]
         refine op_one (i := 28) (by as_aux_lemma => kernel_rfl) rfl (fun K hK => ?_)
         go_simp
         have C := plain10_any ⟨nm, ng, aa, n, c, l⟩ U8
         refine C.mono ?_
         clear C
         rintro e U9 ⟨rfl, br⟩
         unfold tmV
         simp only
         replace BR := Lib.hid (BR.out.trans (br.mono BR.out.size))
         clear br
         try go_wp2_with fail
         refine hK.out _ _ (HKS.out _ BR.out) (fun hHeld2 => ?_)
         clear hK K
         try clear hHeld
         have hHeld := hHeld2
         clear hHeld2
         try simp only [Act.put, List.setIfInBounds_toArray, List.set_cons_zero, List.set_cons_succ]
         refine op_one (i := 30) (by as_aux_lemma => kernel_rfl) rfl (fun K hK => ?_)
         go_simp
         have C := plain10_any ⟨nm2, ng2, aa2, n2, c2, l2⟩ U9
         refine C.mono ?_
         clear C
         rintro e U10 ⟨rfl, br⟩
         unfold tmV
         simp only
         replace BR := Lib.hid (BR.out.trans (br.mono BR.out.size))
         clear br
         try go_wp2_with fail
         refine hK.out _ _ (HKS.out _ BR.out) (fun hHeld2 => ?_)
         clear hK K
         try clear hHeld
         have hHeld := hHeld2
         clear hHeld2
         try simp only [Act.put, List.setIfInBounds_toArray, List.set_cons_zero, List.set_cons_succ]
         refine op_one (i := 31) (by as_aux_lemma => kernel_rfl) rfl (fun K hK => ?_)
         go_simp
         have C := rsame10_any ⟨nm, ng, aa, n, c, l⟩ ⟨nm2, ng2, aa2, n2, c2, l2⟩ U10 (TA.out.keep BR.out) (TB.out.keep BR.out)
         rw [show decide ((TmT.trm ⟨nm, ng, aa, n, c, l⟩) = (TmT.trm ⟨nm2, ng2, aa2, n2, c2, l2⟩)) = v_sm from h_sm] at C
         refine C.mono ?_
         clear C
         rintro e U11 ⟨rfl, br⟩
         replace BR := Lib.hid (BR.out.trans (br.mono BR.out.size))
         clear br
         try go_wp2_with fail
         refine hK.out _ _ (HKS.out _ BR.out) (fun hHeld2 => ?_)
         clear hK K
         try clear hHeld
         have hHeld := hHeld2
         clear hHeld2
         try simp only [Act.put, List.setIfInBounds_toArray, List.set_cons_zero, List.set_cons_succ]
         refine op_take (i := 32) (v := ?_) rfl (by as_aux_lemma => kernel_rfl) (by as_aux_lemma => kernel_rfl) (by as_aux_lemma => kernel_rfl) (fun _ _ _ h => h) (Or.inl ⟨by rfl, ?_⟩) (by assumption) ?_
         rotate_left
         · (intro w hSw; (try dsimp only at hSw); go_simp) <;> (with_reducible rfl)
         try simp only [Act.put, List.setIfInBounds_toArray, List.set_cons_zero, List.set_cons_succ]
         refine op_take (i := 33) (v := ?_) rfl (by as_aux_lemma => kernel_rfl) (by as_aux_lemma => kernel_rfl) (by as_aux_lemma => kernel_rfl) (fun _ _ _ h => h) (Or.inl ⟨by rfl, ?_⟩) (by assumption) ?_
         rotate_left
         · (intro w hSw; (try dsimp only at hSw); go_simp) <;> (with_reducible rfl)
         try simp only [Act.put, List.setIfInBounds_toArray, List.set_cons_zero, List.set_cons_succ]
         refine op_take (i := 34) (v := ?_) rfl (by as_aux_lemma => kernel_rfl) (by as_aux_lemma => kernel_rfl) (by as_aux_lemma => kernel_rfl) (fun _ _ _ h => h) (Or.inl ⟨by rfl, ?_⟩) (by assumption) ?_
         rotate_left
         · (intro w hSw; (try dsimp only at hSw); go_simp) <;> (with_reducible rfl)
         try simp only [Act.put, List.setIfInBounds_toArray, List.set_cons_zero, List.set_cons_succ]
         as_aux_lemma =>
          refine op_take (i := 35) (v := ?_) rfl (by as_aux_lemma => kernel_rfl) (by as_aux_lemma => kernel_rfl) (by as_aux_lemma => kernel_rfl) (fun _ _ _ h => h) (Or.inl ⟨by rfl, ?_⟩) (by assumption) ?_
          rotate_left
          · (intro w hSw; (try dsimp only at hSw); go_simp) <;> (with_reducible rfl)
          try simp only [Act.put, List.setIfInBounds_toArray, List.set_cons_zero, List.set_cons_succ]
          refine op_take (i := 36) (v := ?_) rfl (by as_aux_lemma => kernel_rfl) (by as_aux_lemma => kernel_rfl) (by as_aux_lemma => kernel_rfl) (fun _ _ _ h => h) (Or.inl ⟨by rfl, ?_⟩) (by assumption) ?_
          rotate_left
          · (intro w hSw; (try dsimp only at hSw); go_simp) <;> (with_reducible rfl)
          try simp only [Act.put, List.setIfInBounds_toArray, List.set_cons_zero, List.set_cons_succ]
          refine op_take (i := 38) (v := ?_) rfl (by as_aux_lemma => kernel_rfl) (by as_aux_lemma => kernel_rfl) (by as_aux_lemma => kernel_rfl) (fun _ _ _ h => h) (Or.inl ⟨by rfl, ?_⟩) (by assumption) ?_
          rotate_left
          · (intro w hSw; (try dsimp only at hSw); go_simp) <;> (with_reducible rfl)
          try simp only [Act.put, List.setIfInBounds_toArray, List.set_cons_zero, List.set_cons_succ]
          refine op_take (i := 40) (v := ?_) rfl (by as_aux_lemma => kernel_rfl) (by as_aux_lemma => kernel_rfl) (by as_aux_lemma => kernel_rfl) (fun _ _ _ h => h) (Or.inl ⟨by rfl, ?_⟩) (by assumption) ?_
          rotate_left
          · (intro w hSw; (try dsimp only at hSw); go_simp) <;> (with_reducible rfl)
          try simp only [Act.put, List.setIfInBounds_toArray, List.set_cons_zero, List.set_cons_succ]
          refine op_one (i := 37) (by as_aux_lemma => kernel_rfl) rfl (fun K hK => ?_)
          go_simp
          have C := match10_any ⟨nm, ng, aa, n, c, l⟩ la ln lc L U11 (TA.out.keep BR.out) (TL.out.keep BR.out)
          rw [show matchT (TmT.trm ⟨nm, ng, aa, n, c, l⟩) L = v_mt from h_mt] at C
          refine C.mono ?_
          clear C
          rintro e U12 ⟨rfl, br⟩
          replace BR := Lib.hid (BR.out.trans (br.mono BR.out.size))
          clear br
          try go_wp2_with fail
          refine hK.out _ _ (HKS.out _ BR.out) (fun hHeld2 => ?_)
          clear hK K
          try clear hHeld
          have hHeld := hHeld2
          clear hHeld2
          try simp only [Act.put, List.setIfInBounds_toArray, List.set_cons_zero, List.set_cons_succ]
          refine op_one (i := 39) (by as_aux_lemma => kernel_rfl) rfl (fun K hK => ?_)
          go_simp
          have C := plain10_any ⟨nm, ng, aa, n, c, l⟩ U12
          refine C.mono ?_
          clear C
          rintro e U13 ⟨rfl, br⟩
          unfold tmV
          simp only
          replace BR := Lib.hid (BR.out.trans (br.mono BR.out.size))
          clear br
          try go_wp2_with fail
          refine hK.out _ _ (HKS.out _ BR.out) (fun hHeld2 => ?_)
          clear hK K
          try clear hHeld
          have hHeld := hHeld2
          clear hHeld2
          try simp only [Act.put, List.setIfInBounds_toArray, List.set_cons_zero, List.set_cons_succ]
          refine op_one (i := 41) (by as_aux_lemma => kernel_rfl) rfl (fun K hK => ?_)
          go_simp
          have C := rmatch10_any ⟨nm, ng, aa, n, c, l⟩ la ln lc L U13 (TA.out.keep BR.out) (TL.out.keep BR.out)
          rw [show matchT (TmT.trm ⟨nm, ng, aa, n, c, l⟩) L = v_mt from h_mt] at C
          refine C.mono ?_
          clear C
          rintro e U14 ⟨rfl, br⟩
          replace BR := Lib.hid (BR.out.trans (br.mono BR.out.size))
          clear br
          try go_wp2_with fail
          refine hK.out _ _ (HKS.out _ BR.out) (fun hHeld2 => ?_)
          clear hK K
          try clear hHeld
          have hHeld := hHeld2
          clear hHeld2
          try simp only [Act.put, List.setIfInBounds_toArray, List.set_cons_zero, List.set_cons_succ]
          refine op_take (i := 42) (v := ?_) rfl (by as_aux_lemma => kernel_rfl) (by as_aux_lemma => kernel_rfl) (by as_aux_lemma => kernel_rfl) (fun _ _ _ h => h) (Or.inl ⟨by rfl, ?_⟩) (by assumption) ?_
          rotate_left
          · (intro w hSw; (try dsimp only at hSw); go_simp) <;> (with_reducible rfl)
          try simp only [Act.put, List.setIfInBounds_toArray, List.set_cons_zero, List.set_cons_succ]
          refine op_take (i := 43) (v := ?_) rfl (by as_aux_lemma => kernel_rfl) (by as_aux_lemma => kernel_rfl) (by as_aux_lemma => kernel_rfl) (fun _ _ _ h => h) (Or.inl ⟨by rfl, ?_⟩) (by assumption) ?_
          rotate_left
          · (intro w hSw; (try dsimp only at hSw); go_simp) <;> (with_reducible rfl)
          try simp only [Act.put, List.setIfInBounds_toArray, List.set_cons_zero, List.set_cons_succ]
          refine op_take (i := 44) (v := ?_) rfl (by as_aux_lemma => kernel_rfl) (by as_aux_lemma => kernel_rfl) (by as_aux_lemma => kernel_rfl) (fun _ _ _ h => h) (Or.inl ⟨by rfl, ?_⟩) (by assumption) ?_
          rotate_left
          · (intro w hSw; (try dsimp only at hSw); go_simp) <;> (with_reducible rfl)
          try simp only [Act.put, List.setIfInBounds_toArray, List.set_cons_zero, List.set_cons_succ]
          refine op_one (i := 45) (by as_aux_lemma => kernel_rfl) rfl (fun K hK => ?_)
          go_simp
          have C := known10_any U14
          refine C.mono ?_
          clear C
          rintro e U15 ⟨rfl, br⟩
          replace BR := Lib.hid (BR.out.trans (br.mono BR.out.size))
          clear br
          try go_wp2_with fail
          refine hK.out _ _ (HKS.out _ BR.out) (fun hHeld2 => ?_)
          clear hK K
          try clear hHeld
          have hHeld := hHeld2
          clear hHeld2
          try simp only [Act.put, List.setIfInBounds_toArray, List.set_cons_zero, List.set_cons_succ]
          refine op_take (i := 46) (v := ?_) rfl (by as_aux_lemma => kernel_rfl) (by as_aux_lemma => kernel_rfl) (by as_aux_lemma => kernel_rfl) (fun _ _ _ h => h) (Or.inl ⟨by rfl, ?_⟩) (by assumption) ?_
          rotate_left
          · (intro w hSw; (try dsimp only at hSw); go_simp) <;> (with_reducible rfl)
          try simp only [Act.put, List.setIfInBounds_toArray, List.set_cons_zero, List.set_cons_succ]
          refine op_take (i := 47) (v := ?_) rfl (by as_aux_lemma => kernel_rfl) (by as_aux_lemma => kernel_rfl) (by as_aux_lemma => kernel_rfl) (fun _ _ _ h => h) (Or.inl ⟨by rfl, ?_⟩) (by assumption) ?_
          rotate_left
          · (intro w hSw; (try dsimp only at hSw); go_simp) <;> (with_reducible rfl)
          try simp only [Act.put, List.setIfInBounds_toArray, List.set_cons_zero, List.set_cons_succ]
          refine wpAnyH_done (by as_aux_lemma => kernel_rfl) ?_ _
          have BF := Lib.hid (B.out.trans (BR.out.mono B.out.size))
          go_wp2
          go_ret
          exact ⟨rfl, BF.out⟩
      · have hz : (12 : Int) < (ln : Int) := by omega
        go_wp2_with fail
        refine (known10_any _).mono ?_
        rintro e w9 ⟨rfl, b9⟩
        go_wp2
        go_ret
        exact ⟨rfl, B.out.trans (b9.mono B.out.size)⟩
    · rw [decide_eq_false hB] at C
      refine C.mono ?_
      clear C
      rintro e W5 ⟨rfl, br⟩
      replace X1 := Lib.hid (X1.out.keep br)
      replace X2 := Lib.hid (X2.out.keep br)
      replace TA := Lib.hid (TA.out.keep br)
      replace TB := Lib.hid (TB.out.keep br)
      replace TL := Lib.hid (TL.out.keep br)
      replace B := Lib.hid (B.out.trans (br.mono B.out.size))
      clear br
      go_wp2_with fail
      refine (known10_any _).mono ?_
      rintro e w9 ⟨rfl, b9⟩
      go_wp2
      go_ret
      exact ⟨rfl, B.out.trans (b9.mono B.out.size)⟩
  · rw [decide_eq_false hA] at C
    refine C.mono ?_
    clear C
    rintro e W6 ⟨rfl, br⟩
    replace X1 := Lib.hid (X1.out.keep br)
    replace X2 := Lib.hid (X2.out.keep br)
    replace TA := Lib.hid (TA.out.keep br)
    replace TB := Lib.hid (TB.out.keep br)
    replace TL := Lib.hid (TL.out.keep br)
    replace B := Lib.hid (B.out.trans (br.mono B.out.size))
    clear br
    go_wp2_with fail
    refine (known10_any _).mono ?_
    rintro e w9 ⟨rfl, b9⟩
    go_wp2
    go_ret
    exact ⟨rfl, B.out.trans (b9.mono B.out.size)⟩
set_option maxRecDepth 100000 in
theorem lifted (os : Os) (started : os.Started) (H : Type) (enc : TypeId × Value → H) :
    ReturnsInHanded {} Tryz.checked os 3 .any (fun w args => (Rows.filterTellsSpec.pre enc Tryz.prog Tryz.f3 [] false w args ∧ laidMetH Tryz.prog laidL w) ∧ sizedMet enc Tryz.prog Tryz.f3 (OpenSpec.ofChange Rows.filterTellsSpec) false w args)
      (Rows.filterTellsSpec.post enc Tryz.prog Tryz.f3 false true false false) := by
  refine returnsInHanded_of_change_and (C := Tryz.checked) (X := fun w _ => laidMetH Tryz.prog laidL w) (fun _ _ _ hh h => h.of_heap hh) own started (by kernel_rfl) Tryz.func3
    (ChangeSpec.witness_shaped (enc := enc) (C := Tryz.checked) (os := os) (X := fun w _ => laidMetH Tryz.prog laidL w) false (World.laidAll Tryz.prog os laidL) #[.agg #[.string ByteArray.empty, .bool false, .slice none 0 0], .agg #[.string ByteArray.empty, .bool false, .slice none 0 0], .slice none 0 0] 8 (World.laidAll_os _ _ _) (door_shape os _) (by kernel_rfl) (by kernel_rfl) (by kernel_rfl) (door_met os _)) ?_
  intro W base args ds gs before hval0 hW _ _ hL _
  have hval : ∀ (j : Nat) t v, Tryz.f3.params[j]? = some t → args[j]? = some v → Value.okWide Tryz.prog W .any base t v := hval0
  have hW' := hW
  obtain ⟨p, q, hA0, hV, rfl, hfz, hnd⟩ := hW
  have hA : DataW.TrodAll enc Tryz.prog W 0 (fun _ => true) true Tryz.f3.params.toList args.toList ds p := hA0
  rw [Tryz.params3] at hA hval
  obtain ⟨v0, vs0, d0, ds0, p0, q0, hargs, rfl, rfl, h0, r0⟩ := trodAll_cons hA
  obtain ⟨v1, vs1, d1, ds1, p1, q1, rfl, rfl, rfl, h1, r1⟩ := trodAll_cons r0
  obtain ⟨v2, vs2, d2, ds2, p2, q2, rfl, rfl, rfl, h2, r2⟩ := trodAll_cons r1
  obtain ⟨rfl, rfl, rfl⟩ := trodAll_nil r2
  obtain rfl : args = #[v0, v1, v2] := by cases args; simp_all
  obtain ⟨rfl, rfl⟩ := trodVars_none hV
  have k0 := h0
  have lt0 : ∀ x ∈ p0, x.block < W.heap.size := by obtain ⟨m, hm⟩ := k0; exact DataW.trod_lt m _ _ _ hm
  obtain ⟨a0, rfl, w0⟩ := open_tm10 (hval 0 24 v0 rfl rfl) h0
  have k1 := h1
  have lt1 : ∀ x ∈ p1, x.block < W.heap.size := by obtain ⟨m, hm⟩ := k1; exact DataW.trod_lt m _ _ _ hm
  obtain ⟨a1, rfl, w1⟩ := open_tm10 (hval 1 24 v1 rfl rfl) h1
  obtain ⟨a2, len2, cap2, rfl⟩ := okWide_slice Tryz.underlying25 (hval 2 25 v2 rfl rfl)
  have k2 := h2
  have lt2 : ∀ x ∈ p2, x.block < W.heap.size := by obtain ⟨m, hm⟩ := k2; exact DataW.trod_lt m _ _ _ hm
  obtain ⟨z2, w2⟩ := open_lbs10 h2
  clear hA0 hval0
  refine (walk a0 a1 a2 len2 cap2 z2 W w0 w1 w2).mono fun e W' ⟨he, bel⟩ => ?_
  subst he
  exact ⟨_, rfl, _, _, _, [], _, [], hW', trodAll_mk1 (shut_bool Tryz.underlying4 _), (trodAll_cons_mk (Below.trod laidOut (by kernel_rfl) (of_decide_eq_true (by kernel_rfl)) k0 bel lt0) (trodAll_cons_mk (Below.trod laidOut (by kernel_rfl) (of_decide_eq_true (by kernel_rfl)) k1 bel lt1) (trodAll_cons_mk (Below.trod laidOut (by kernel_rfl) (of_decide_eq_true (by kernel_rfl)) k2 bel lt2) trodAll_mk0))), rfl, bel.frame _, fun h => by cases h⟩

theorem over : Rows.filterTellsRow.holds Tryz.pinned (OpenSpec.ofChange Rows.filterTellsSpec) :=
  OpenClaim.holds_of_wide 3 Tryz.f3 rfl rfl rfl rfl rfl rfl rfl ⟨rfl, rfl, rfl, rfl, rfl⟩ rfl rfl rfl rfl rfl (by kernel_rfl) Tryz.func3 (by kernel_rfl)
    (of_decide_eq_true (by kernel_rfl)) (by unfold Func.isWrapper; first | (rw [if_pos (by decide +kernel)]; kernel_rfl) | (rw [if_neg (by decide +kernel)]; exact ⟨rfl, rfl⟩))
    (fun os started H enc _ => lifted os started H enc)

theorem proved : Rows.FilterTellsCardSaid :=
  Claim7.holds_tied_plain_at .later [] Rows.filterTellsCard.laidKinds true Rows.filterTellsCard.stood.harness false
    over (fun _ h => by cases h) (by kernel_rfl) (fun _ h => by cases h) filterTells_row_tie rfl ⟨rfl, rfl⟩ (by kernel_rfl) rfl
    (fun f fn hf hfn => by
      obtain rfl : f = 3 := Option.some.inj ((show Tryz.prog.funcNamed "tachograph/tachographlaw10.FilterTells" = some 3 by kernel_rfl).symm.trans hf) |>.symm
      obtain rfl : fn = Tryz.f3 := (Option.some.inj (Tryz.func3.symm.trans hfn)).symm
      exact ⟨by kernel_rfl, fun j t ht => by
        rw [Tryz.params3] at ht
        have hm : t ∈ [24, 24, 25] := by simpa using Array.mem_of_getElem? ht
        have hall : ([24, 24, 25].all fun u => !Tryz.prog.wantsStandIn u) = true := by kernel_rfl
        exact (show Tryz.prog.wantsStandIn t = false by simpa using List.all_eq_true.1 hall t hm)⟩)
    (by kernel_rfl)
end filterTells
theorem filterTells_holds : Rows.FilterTellsCardSaid := filterTells.proved
#print axioms filterTells_holds
end Go.Proofs.YtifjbbiphekmmaaGreatDoor
