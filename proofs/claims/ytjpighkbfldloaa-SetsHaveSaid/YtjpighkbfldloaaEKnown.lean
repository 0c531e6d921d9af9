/-
  Contract of law08's known.
-/
import Derived.Test.YtjpighkbfldloaaEPick
namespace Go.Proofs.Ytjpighkbfldloaa
open Go.RowKit
set_option linter.unusedVariables false
set_option linter.unusedSimpArgs false

theorem tx_lit {W : World} {b : Nat} {l : List Tx} {t : TypeId} (h : W.heap[b]? = some (.cells (l.map tc).toArray t (0, 0))) (hl : l.length ≤ 9223372036854775807 := by simp) : TxAt W (some ⟨b, 0, none⟩) l.length l.length l :=
  ⟨rfl, Nat.le_refl _, hl, .inr ⟨b, 0, rfl, heap_lt h, fun i hi => by
    rw [cell_of h, Nat.zero_add, List.getElem?_toArray, List.getElem?_map, List.getElem?_eq_getElem hi, getD_get hi]; rfl⟩⟩
set_option maxRecDepth 100000 in
set_option maxHeartbeats 8000000 in
theorem eknown_any (w : World) :
    Calls Try.prog 10 #[] w fun e w' => e = .returned (.bool true) ∧ Below w.heap.size w w' := by
  go_enter Try.func10, Try.ntmps10
  have B := Lib.hid (Below.refl w.heap.size w)
  go_wp2_with fail
  have TA : Hid (TxAt (w.alloc (.cells #[.string ⟨#[97]⟩, .string ⟨#[98]⟩] 9)) (some ⟨w.heap.size, 0, none⟩) 2 2 [[97], [98]]) := Lib.hid (tx_lit (l := [[97], [98]]) (heap_new w _))
  have br := (Below.refl w.heap.size w).alloc (Nat.le_refl _) (.cells #[.string ⟨#[97]⟩, .string ⟨#[98]⟩] 9)
  replace B := Lib.hid (B.out.trans (br.mono B.out.size))
  clear br
  have ZA := Lib.hid (show (w.alloc (.cells #[.string ⟨#[97]⟩, .string ⟨#[98]⟩] 9)).heap.size = w.heap.size + 1 from by simp)
  generalize w.alloc (.cells #[.string ⟨#[97]⟩, .string ⟨#[98]⟩] 9) = W1 at *
  have TBb : Hid (TxAt (W1.alloc (.cells #[.string ⟨#[98]⟩, .string ⟨#[99]⟩] 9)) (some ⟨W1.heap.size, 0, none⟩) 2 2 [[98], [99]]) := Lib.hid (tx_lit (l := [[98], [99]]) (heap_new W1 _))
  rw [ZA.out] at TBb
  have br := (Below.refl W1.heap.size W1).alloc (Nat.le_refl _) (.cells #[.string ⟨#[98]⟩, .string ⟨#[99]⟩] 9)
  replace B := Lib.hid (B.out.trans (br.mono B.out.size))
  replace TA := Lib.hid (TA.out.keep br)
  clear br
  have ZBb := Lib.hid (show (W1.alloc (.cells #[.string ⟨#[98]⟩, .string ⟨#[99]⟩] 9)).heap.size = W1.heap.size + 1 from by simp)
  generalize W1.alloc (.cells #[.string ⟨#[98]⟩, .string ⟨#[99]⟩] 9) = W2 at *
  refine (and8_any (some ⟨w.heap.size, 0, none⟩) 2 2 ([[97], [98]]) (some ⟨w.heap.size + 1, 0, none⟩) 2 2 ([[98], [99]]) W2 TA.out TBb.out (by have h0 := TA.out.1; have g0 : ([[97], [98]]).length ≤ 2 := (by decide); have h1 := TBb.out.1; have g1 : ([[98], [99]]).length ≤ 2 := (by decide); omega)).mono ?_
  intro e W3 hm
  obtain ⟨a_p, c_p, rfl, Tp, br⟩ := hm.to
  clear hm
  replace Tp := Lib.hid Tp
  replace B := Lib.hid (B.out.trans (br.mono B.out.size))
  replace TA := Lib.hid (TA.out.keep br)
  replace TBb := Lib.hid (TBb.out.keep br)
  clear br
  generalize (andL ([[97], [98]]) ([[98], [99]])).length = n_p at *
  go_wp2_with fail
  have Tq : Hid (TxAt (W3.alloc (.cells #[.string ⟨#[98]⟩] 9)) (some ⟨W3.heap.size, 0, none⟩) 1 1 [[98]]) := Lib.hid (tx_lit (l := [[98]]) (heap_new W3 _))
  have br := (Below.refl W3.heap.size W3).alloc (Nat.le_refl _) (.cells #[.string ⟨#[98]⟩] 9)
  replace B := Lib.hid (B.out.trans (br.mono B.out.size))
  replace TA := Lib.hid (TA.out.keep br)
  replace TBb := Lib.hid (TBb.out.keep br)
  replace Tp := Lib.hid (Tp.out.keep br)
  clear br
  have Zq := Lib.hid (show (W3.alloc (.cells #[.string ⟨#[98]⟩] 9)).heap.size = W3.heap.size + 1 from by simp)
  generalize W3.alloc (.cells #[.string ⟨#[98]⟩] 9) = W4 at *
  have C := same8_any a_p n_p c_p (andL ([[97], [98]]) ([[98], [99]])) (some ⟨W3.heap.size, 0, none⟩) 1 1 ([[98]]) W4 Tp.out Tq.out
  rw [decide_eq_true (show (andL ([[97], [98]]) ([[98], [99]])) = ([[98]]) from by decide)] at C
  refine C.mono ?_
  clear C
  rintro e W5 ⟨rfl, hd⟩
  have br := hd.bel
  clear hd
  replace B := Lib.hid (B.out.trans (br.mono B.out.size))
  replace TA := Lib.hid (TA.out.keep br)
  replace TBb := Lib.hid (TBb.out.keep br)
  replace Tp := Lib.hid (Tp.out.keep br)
  replace Tq := Lib.hid (Tq.out.keep br)
  clear br
  clear Tp
  clear Tq
  go_wp2_with fail
  refine (or8_any (some ⟨w.heap.size, 0, none⟩) 2 2 ([[97], [98]]) (some ⟨w.heap.size + 1, 0, none⟩) 2 2 ([[98], [99]]) W5 TA.out TBb.out (by have h0 := TA.out.1; have g0 : ([[97], [98]]).length ≤ 2 := (by decide); have h1 := TBb.out.1; have g1 : ([[98], [99]]).length ≤ 2 := (by decide); omega)).mono ?_
  intro e W6 hm
  obtain ⟨a_p2, c_p2, rfl, Tp2, br⟩ := hm.to
  clear hm
  replace Tp2 := Lib.hid Tp2
  replace B := Lib.hid (B.out.trans (br.mono B.out.size))
  replace TA := Lib.hid (TA.out.keep br)
  replace TBb := Lib.hid (TBb.out.keep br)
  clear br
  generalize (orL ([[97], [98]]) ([[98], [99]])).length = n_p2 at *
  go_wp2_with fail
  have Tq2 : Hid (TxAt (W6.alloc (.cells #[.string ⟨#[97]⟩, .string ⟨#[98]⟩, .string ⟨#[99]⟩] 9)) (some ⟨W6.heap.size, 0, none⟩) 3 3 [[97], [98], [99]]) := Lib.hid (tx_lit (l := [[97], [98], [99]]) (heap_new W6 _))
  have br := (Below.refl W6.heap.size W6).alloc (Nat.le_refl _) (.cells #[.string ⟨#[97]⟩, .string ⟨#[98]⟩, .string ⟨#[99]⟩] 9)
  replace B := Lib.hid (B.out.trans (br.mono B.out.size))
  replace TA := Lib.hid (TA.out.keep br)
  replace TBb := Lib.hid (TBb.out.keep br)
  replace Tp2 := Lib.hid (Tp2.out.keep br)
  clear br
  have Zq2 := Lib.hid (show (W6.alloc (.cells #[.string ⟨#[97]⟩, .string ⟨#[98]⟩, .string ⟨#[99]⟩] 9)).heap.size = W6.heap.size + 1 from by simp)
  generalize W6.alloc (.cells #[.string ⟨#[97]⟩, .string ⟨#[98]⟩, .string ⟨#[99]⟩] 9) = W7 at *
  have C := same8_any a_p2 n_p2 c_p2 (orL ([[97], [98]]) ([[98], [99]])) (some ⟨W6.heap.size, 0, none⟩) 3 3 ([[97], [98], [99]]) W7 Tp2.out Tq2.out
  rw [decide_eq_true (show (orL ([[97], [98]]) ([[98], [99]])) = ([[97], [98], [99]]) from by decide)] at C
  refine C.mono ?_
  clear C
  rintro e W8 ⟨rfl, hd⟩
  have br := hd.bel
  clear hd
  replace B := Lib.hid (B.out.trans (br.mono B.out.size))
  replace TA := Lib.hid (TA.out.keep br)
  replace TBb := Lib.hid (TBb.out.keep br)
  replace Tp2 := Lib.hid (Tp2.out.keep br)
  replace Tq2 := Lib.hid (Tq2.out.keep br)
  clear br
  clear Tp2
  clear Tq2
  go_wp2_with fail
  refine (less8_any (some ⟨w.heap.size, 0, none⟩) 2 2 ([[97], [98]]) (some ⟨w.heap.size + 1, 0, none⟩) 2 2 ([[98], [99]]) W8 TA.out TBb.out (by have h0 := TA.out.1; have g0 : ([[97], [98]]).length ≤ 2 := (by decide); have h1 := TBb.out.1; have g1 : ([[98], [99]]).length ≤ 2 := (by decide); omega)).mono ?_
  intro e W9 hm
  obtain ⟨a_p3, c_p3, rfl, Tp3, br⟩ := hm.to
  clear hm
  replace Tp3 := Lib.hid Tp3
  replace B := Lib.hid (B.out.trans (br.mono B.out.size))
  replace TA := Lib.hid (TA.out.keep br)
  replace TBb := Lib.hid (TBb.out.keep br)
  clear br
  generalize (lessL ([[97], [98]]) ([[98], [99]])).length = n_p3 at *
  go_wp2_with fail
  have Tq3 : Hid (TxAt (W9.alloc (.cells #[.string ⟨#[97]⟩] 9)) (some ⟨W9.heap.size, 0, none⟩) 1 1 [[97]]) := Lib.hid (tx_lit (l := [[97]]) (heap_new W9 _))
  have br := (Below.refl W9.heap.size W9).alloc (Nat.le_refl _) (.cells #[.string ⟨#[97]⟩] 9)
  replace B := Lib.hid (B.out.trans (br.mono B.out.size))
  replace TA := Lib.hid (TA.out.keep br)
  replace TBb := Lib.hid (TBb.out.keep br)
  replace Tp3 := Lib.hid (Tp3.out.keep br)
  clear br
  have Zq3 := Lib.hid (show (W9.alloc (.cells #[.string ⟨#[97]⟩] 9)).heap.size = W9.heap.size + 1 from by simp)
  generalize W9.alloc (.cells #[.string ⟨#[97]⟩] 9) = W10 at *
  have C := same8_any a_p3 n_p3 c_p3 (lessL ([[97], [98]]) ([[98], [99]])) (some ⟨W9.heap.size, 0, none⟩) 1 1 ([[97]]) W10 Tp3.out Tq3.out
  rw [decide_eq_true (show (lessL ([[97], [98]]) ([[98], [99]])) = ([[97]]) from by decide)] at C
  refine C.mono ?_
  clear C
  rintro e W11 ⟨rfl, hd⟩
  have br := hd.bel
  clear hd
  replace B := Lib.hid (B.out.trans (br.mono B.out.size))
  replace TA := Lib.hid (TA.out.keep br)
  replace TBb := Lib.hid (TBb.out.keep br)
  replace Tp3 := Lib.hid (Tp3.out.keep br)
  replace Tq3 := Lib.hid (Tq3.out.keep br)
  clear br
  clear Tp3
  clear Tq3
  go_wp2_with fail
  have Tz : Hid (TxAt (W11.alloc (.cells #[.string ⟨#[99]⟩, .string ⟨#[97]⟩, .string ⟨#[99]⟩] 9)) (some ⟨W11.heap.size, 0, none⟩) 3 3 [[99], [97], [99]]) := Lib.hid (tx_lit (l := [[99], [97], [99]]) (heap_new W11 _))
  have br := (Below.refl W11.heap.size W11).alloc (Nat.le_refl _) (.cells #[.string ⟨#[99]⟩, .string ⟨#[97]⟩, .string ⟨#[99]⟩] 9)
  replace B := Lib.hid (B.out.trans (br.mono B.out.size))
  replace TA := Lib.hid (TA.out.keep br)
  replace TBb := Lib.hid (TBb.out.keep br)
  clear br
  have Zz := Lib.hid (show (W11.alloc (.cells #[.string ⟨#[99]⟩, .string ⟨#[97]⟩, .string ⟨#[99]⟩] 9)).heap.size = W11.heap.size + 1 from by simp)
  generalize W11.alloc (.cells #[.string ⟨#[99]⟩, .string ⟨#[97]⟩, .string ⟨#[99]⟩] 9) = W12 at *
  refine (of_any (some ⟨W11.heap.size, 0, none⟩) 3 3 ([[99], [97], [99]]) W12 Tz.out (by have h0 := Tz.out.1; have g0 : ([[99], [97], [99]]).length ≤ 3 := (by decide); omega)).mono ?_
  intro e W13 hm
  obtain ⟨a_p4, c_p4, rfl, Tp4, br⟩ := hm.to
  clear hm
  replace Tp4 := Lib.hid Tp4
  replace B := Lib.hid (B.out.trans (br.mono B.out.size))
  replace TA := Lib.hid (TA.out.keep br)
  replace TBb := Lib.hid (TBb.out.keep br)
  replace Tz := Lib.hid (Tz.out.keep br)
  clear br
  generalize (canon ([[99], [97], [99]])).length = n_p4 at *
  go_wp2_with fail
  have Tq4 : Hid (TxAt (W13.alloc (.cells #[.string ⟨#[97]⟩, .string ⟨#[99]⟩] 9)) (some ⟨W13.heap.size, 0, none⟩) 2 2 [[97], [99]]) := Lib.hid (tx_lit (l := [[97], [99]]) (heap_new W13 _))
  have br := (Below.refl W13.heap.size W13).alloc (Nat.le_refl _) (.cells #[.string ⟨#[97]⟩, .string ⟨#[99]⟩] 9)
  replace B := Lib.hid (B.out.trans (br.mono B.out.size))
  replace TA := Lib.hid (TA.out.keep br)
  replace TBb := Lib.hid (TBb.out.keep br)
  replace Tz := Lib.hid (Tz.out.keep br)
  replace Tp4 := Lib.hid (Tp4.out.keep br)
  clear br
  have Zq4 := Lib.hid (show (W13.alloc (.cells #[.string ⟨#[97]⟩, .string ⟨#[99]⟩] 9)).heap.size = W13.heap.size + 1 from by simp)
  generalize W13.alloc (.cells #[.string ⟨#[97]⟩, .string ⟨#[99]⟩] 9) = W14 at *
  have C := same8_any a_p4 n_p4 c_p4 (canon ([[99], [97], [99]])) (some ⟨W13.heap.size, 0, none⟩) 2 2 ([[97], [99]]) W14 Tp4.out Tq4.out
  rw [decide_eq_true (show (canon ([[99], [97], [99]])) = ([[97], [99]]) from by decide)] at C
  refine C.mono ?_
  clear C
  rintro e W15 ⟨rfl, hd⟩
  have br := hd.bel
  clear hd
  replace B := Lib.hid (B.out.trans (br.mono B.out.size))
  replace TA := Lib.hid (TA.out.keep br)
  replace TBb := Lib.hid (TBb.out.keep br)
  replace Tz := Lib.hid (Tz.out.keep br)
  replace Tp4 := Lib.hid (Tp4.out.keep br)
  replace Tq4 := Lib.hid (Tq4.out.keep br)
  clear br
  clear Tp4
  clear Tq4
  clear Tz
  go_wp2_with fail
  have C := has8_any (some ⟨w.heap.size, 0, none⟩) 2 2 ([[97], [98]]) [98] W15 TA.out
  rw [decide_eq_true (show ([98] : Tx) ∈ [[97], [98]] from by decide)] at C
  refine C.mono ?_
  clear C
  rintro e w' ⟨rfl, rfl⟩
  go_wp2_with fail
  have C := has8_any (some ⟨w.heap.size, 0, none⟩) 2 2 ([[97], [98]]) [99] W15 TA.out
  rw [decide_eq_false (show ¬ ([99] : Tx) ∈ [[97], [98]] from by decide)] at C
  refine C.mono ?_
  clear C
  rintro e w' ⟨rfl, rfl⟩
  go_wp2_with fail
  refine (add8_any (some ⟨w.heap.size + 1, 0, none⟩) 2 2 ([[98], [99]]) [97] W15 TBb.out (by have h0 := TBb.out.1; have g0 : ([[98], [99]]).length ≤ 2 := (by decide); omega)).mono ?_
  intro e W16 hm
  obtain ⟨a_p5, c_p5, rfl, Tp5, br⟩ := hm.to
  clear hm
  replace Tp5 := Lib.hid Tp5
  replace B := Lib.hid (B.out.trans (br.mono B.out.size))
  replace TA := Lib.hid (TA.out.keep br)
  replace TBb := Lib.hid (TBb.out.keep br)
  clear br
  generalize (orL ([[98], [99]]) [[97]]).length = n_p5 at *
  go_wp2_with fail
  have Tq5 : Hid (TxAt (W16.alloc (.cells #[.string ⟨#[97]⟩, .string ⟨#[98]⟩, .string ⟨#[99]⟩] 9)) (some ⟨W16.heap.size, 0, none⟩) 3 3 [[97], [98], [99]]) := Lib.hid (tx_lit (l := [[97], [98], [99]]) (heap_new W16 _))
  have br := (Below.refl W16.heap.size W16).alloc (Nat.le_refl _) (.cells #[.string ⟨#[97]⟩, .string ⟨#[98]⟩, .string ⟨#[99]⟩] 9)
  replace B := Lib.hid (B.out.trans (br.mono B.out.size))
  replace TA := Lib.hid (TA.out.keep br)
  replace TBb := Lib.hid (TBb.out.keep br)
  replace Tp5 := Lib.hid (Tp5.out.keep br)
  clear br
  have Zq5 := Lib.hid (show (W16.alloc (.cells #[.string ⟨#[97]⟩, .string ⟨#[98]⟩, .string ⟨#[99]⟩] 9)).heap.size = W16.heap.size + 1 from by simp)
  generalize W16.alloc (.cells #[.string ⟨#[97]⟩, .string ⟨#[98]⟩, .string ⟨#[99]⟩] 9) = W17 at *
  have C := same8_any a_p5 n_p5 c_p5 (orL ([[98], [99]]) [[97]]) (some ⟨W16.heap.size, 0, none⟩) 3 3 ([[97], [98], [99]]) W17 Tp5.out Tq5.out
  rw [decide_eq_true (show (orL ([[98], [99]]) [[97]]) = ([[97], [98], [99]]) from by decide)] at C
  refine C.mono ?_
  clear C
  rintro e W18 ⟨rfl, hd⟩
  have br := hd.bel
  clear hd
  replace B := Lib.hid (B.out.trans (br.mono B.out.size))
  replace TA := Lib.hid (TA.out.keep br)
  replace TBb := Lib.hid (TBb.out.keep br)
  replace Tp5 := Lib.hid (Tp5.out.keep br)
  replace Tq5 := Lib.hid (Tq5.out.keep br)
  clear br
  clear Tp5
  clear Tq5
  go_wp2_with fail
  refine (del8_any (some ⟨w.heap.size + 1, 0, none⟩) 2 2 ([[98], [99]]) [98] W18 TBb.out (by have h0 := TBb.out.1; have g0 : ([[98], [99]]).length ≤ 2 := (by decide); omega)).mono ?_
  intro e W19 hm
  obtain ⟨a_p6, c_p6, rfl, Tp6, br⟩ := hm.to
  clear hm
  replace Tp6 := Lib.hid Tp6
  replace B := Lib.hid (B.out.trans (br.mono B.out.size))
  replace TA := Lib.hid (TA.out.keep br)
  replace TBb := Lib.hid (TBb.out.keep br)
  clear br
  generalize (lessL ([[98], [99]]) [[98]]).length = n_p6 at *
  go_wp2_with fail
  have Tq6 : Hid (TxAt (W19.alloc (.cells #[.string ⟨#[99]⟩] 9)) (some ⟨W19.heap.size, 0, none⟩) 1 1 [[99]]) := Lib.hid (tx_lit (l := [[99]]) (heap_new W19 _))
  have br := (Below.refl W19.heap.size W19).alloc (Nat.le_refl _) (.cells #[.string ⟨#[99]⟩] 9)
  replace B := Lib.hid (B.out.trans (br.mono B.out.size))
  replace TA := Lib.hid (TA.out.keep br)
  replace TBb := Lib.hid (TBb.out.keep br)
  replace Tp6 := Lib.hid (Tp6.out.keep br)
  clear br
  have Zq6 := Lib.hid (show (W19.alloc (.cells #[.string ⟨#[99]⟩] 9)).heap.size = W19.heap.size + 1 from by simp)
  generalize W19.alloc (.cells #[.string ⟨#[99]⟩] 9) = W20 at *
  have C := same8_any a_p6 n_p6 c_p6 (lessL ([[98], [99]]) [[98]]) (some ⟨W19.heap.size, 0, none⟩) 1 1 ([[99]]) W20 Tp6.out Tq6.out
  rw [decide_eq_true (show (lessL ([[98], [99]]) [[98]]) = ([[99]]) from by decide)] at C
  refine C.mono ?_
  clear C
  rintro e W21 ⟨rfl, hd⟩
  have br := hd.bel
  clear hd
  replace B := Lib.hid (B.out.trans (br.mono B.out.size))
  replace TA := Lib.hid (TA.out.keep br)
  replace TBb := Lib.hid (TBb.out.keep br)
  replace Tp6 := Lib.hid (Tp6.out.keep br)
  replace Tq6 := Lib.hid (Tq6.out.keep br)
  clear br
  clear Tp6
  clear Tq6
  go_wp2_with fail
  have C := right8_any (some ⟨w.heap.size, 0, none⟩) 2 2 ([[97], [98]]) W21 TA.out
  rw [decide_eq_true (show SS [[97], [98]] from by decide)] at C
  refine C.mono ?_
  clear C
  rintro e W22 ⟨rfl, hd⟩
  have br := hd.bel
  clear hd
  replace B := Lib.hid (B.out.trans (br.mono B.out.size))
  replace TA := Lib.hid (TA.out.keep br)
  replace TBb := Lib.hid (TBb.out.keep br)
  clear br
  go_wp2_with fail
  have Tz2 : Hid (TxAt (W22.alloc (.cells #[.string ⟨#[97]⟩, .string ⟨#[97]⟩] 9)) (some ⟨W22.heap.size, 0, none⟩) 2 2 [[97], [97]]) := Lib.hid (tx_lit (l := [[97], [97]]) (heap_new W22 _))
  have br := (Below.refl W22.heap.size W22).alloc (Nat.le_refl _) (.cells #[.string ⟨#[97]⟩, .string ⟨#[97]⟩] 9)
  replace B := Lib.hid (B.out.trans (br.mono B.out.size))
  replace TA := Lib.hid (TA.out.keep br)
  replace TBb := Lib.hid (TBb.out.keep br)
  clear br
  have Zz2 := Lib.hid (show (W22.alloc (.cells #[.string ⟨#[97]⟩, .string ⟨#[97]⟩] 9)).heap.size = W22.heap.size + 1 from by simp)
  generalize W22.alloc (.cells #[.string ⟨#[97]⟩, .string ⟨#[97]⟩] 9) = W23 at *
  have C := right8_any (some ⟨W22.heap.size, 0, none⟩) 2 2 ([[97], [97]]) W23 Tz2.out
  rw [decide_eq_false (show ¬ SS [[97], [97]] from by decide)] at C
  refine C.mono ?_
  clear C
  rintro e W24 ⟨rfl, hd⟩
  have br := hd.bel
  clear hd
  replace B := Lib.hid (B.out.trans (br.mono B.out.size))
  replace TA := Lib.hid (TA.out.keep br)
  replace TBb := Lib.hid (TBb.out.keep br)
  replace Tz2 := Lib.hid (Tz2.out.keep br)
  clear br
  go_wp2
  go_ret
  exact ⟨rfl, B.out⟩

end Go.Proofs.Ytjpighkbfldloaa
