/-
  Contract of law09's known.
-/
import Derived.Test.YtpkbkemenfdadaaIWith
import Derived.Test.YtpkbkemenfdadaaISame
namespace Go.Proofs.Ytpkbkemenfdadaa
open Go.RowKit
set_option linter.unusedVariables false
set_option linter.unusedSimpArgs false

theorem tx_lit {W : World} {b : Nat} {l : List Tx} {t : TypeId} (h : W.heap[b]? = some (.cells (l.map tc).toArray t (0, 0))) (hl : l.length ≤ 9223372036854775807 := by simp) : TxAt W (some ⟨b, 0, none⟩) l.length l.length l :=
  ⟨rfl, Nat.le_refl _, hl, .inr ⟨b, 0, rfl, heap_lt h, fun i hi => by
    rw [cell_of h, Nat.zero_add, List.getElem?_toArray, List.getElem?_map, List.getElem?_eq_getElem hi, getD_get hi]; rfl⟩⟩
/-- What an index turns lies among what is its own, or is new. -/
theorem fa_turn {w w' : World} {x bl bn : Nat} {ρ ρ' : Rho} {E' : List Ent} {B : Nat} (h : ∀ i, FA ρ i → B ≤ i) (t : IxTurn w w' x bl bn ρ ρ' E') (hB : B ≤ w.heap.size) : ∀ i, FA ρ' i → B ≤ i := by
  intro i f
  by_cases hi : i < w.heap.size
  · exact h i (by unfold FA at *; rw [t.ext i hi] at f; exact f)
  · omega
set_option maxRecDepth 100000 in
set_option maxHeartbeats 16000000 in
theorem iknown_any (w : World) :
    Calls Try.prog 10 #[] w fun e w' => e = .returned (.bool true) ∧ Below w.heap.size w w' := by
  go_enter Try.func10, Try.ntmps10
  have B := Lib.hid (Below.refl w.heap.size w)
  have SZ := Lib.hid (Nat.le_refl w.heap.size)
  go_wp2_with fail
  refine (new_any _).mono ?_
  rintro e W1 ⟨x, bl, bn, ρ0, rfl, xx, br, fx⟩
  replace B := Lib.hid (B.out.trans (br.mono B.out.size))
  have X := Lib.hid xx
  have FX := Lib.hid (show ∀ i, FA ρ0 i → w.heap.size ≤ i from fun i hi => Nat.le_trans (by have := B.out.size; first | omega | exact Nat.le_refl _) (fx i hi))
  clear xx br fx
  replace SZ := Lib.hid B.out.size
  go_wp2_with fail
  have Tla : Hid (LbAt (W1.alloc (.cells #[.string ⟨#[121]⟩, .string ⟨#[51]⟩, .string ⟨#[120]⟩, .string ⟨#[49]⟩] 24)) (some ⟨W1.heap.size, 0, none⟩) 2 2 [([121], [51]), ([120], [49])]) := Lib.hid (lb_lit (l := [([121], [51]), ([120], [49])]) (heap_new W1 _) (by decide))
  have br := (Below.refl W1.heap.size W1).alloc (Nat.le_refl _) (.cells #[.string ⟨#[121]⟩, .string ⟨#[51]⟩, .string ⟨#[120]⟩, .string ⟨#[49]⟩] 24)
  replace B := Lib.hid (B.out.trans (br.mono B.out.size))
  replace X := Lib.hid (X.out.keep br)
  replace SZ := Lib.hid B.out.size
  clear br
  generalize W1.alloc (.cells #[.string ⟨#[121]⟩, .string ⟨#[51]⟩, .string ⟨#[120]⟩, .string ⟨#[49]⟩] 24) = W2 at *
  generalize W1.heap.size = b_la at *
  have C := iset_ok W2 x bl bn ρ0 (([] : List Ent)) [97] (some ⟨b_la, 0, none⟩) 2 2 ([([121], [51]), ([120], [49])]) X.out Tla.out
  rw [if_pos (show okE [97] ([([121], [51]), ([120], [49])]) from by decide), show stepE [97] ([([121], [51]), ([120], [49])]) (([] : List Ent)) = ([([97], [([120], [49]), ([121], [51])])] : List Ent) from by decide] at C
  have HC := Lib.hid C
  clear C
  refine (HC.out).mono ?_
  rintro e W3 ⟨rfl, ρ1, tt⟩
  replace X := Lib.hid tt.ix
  replace B := Lib.hid (Trn.below B.out B.out.size tt.trn (fun i hi f => by have := FX.out i f; omega))
  replace Tla := Lib.hid (Tla.out.trn tt.trn)
  replace FX := Lib.hid (fa_turn (B := w.heap.size) FX.out tt SZ.out)
  replace SZ := Lib.hid B.out.size
  clear tt
  clear HC
  clear Tla
  go_wp2_with fail
  have Tlb : Hid (LbAt (W3.alloc (.cells #[.string ⟨#[120]⟩, .string ⟨#[50]⟩] 24)) (some ⟨W3.heap.size, 0, none⟩) 1 1 [([120], [50])]) := Lib.hid (lb_lit (l := [([120], [50])]) (heap_new W3 _) (by decide))
  have br := (Below.refl W3.heap.size W3).alloc (Nat.le_refl _) (.cells #[.string ⟨#[120]⟩, .string ⟨#[50]⟩] 24)
  replace B := Lib.hid (B.out.trans (br.mono B.out.size))
  replace X := Lib.hid (X.out.keep br)
  replace SZ := Lib.hid B.out.size
  clear br
  generalize W3.alloc (.cells #[.string ⟨#[120]⟩, .string ⟨#[50]⟩] 24) = W4 at *
  generalize W3.heap.size = b_lb at *
  have C := iset_ok W4 x bl bn ρ1 (([([97], [([120], [49]), ([121], [51])])] : List Ent)) [98] (some ⟨b_lb, 0, none⟩) 1 1 ([([120], [50])]) X.out Tlb.out
  rw [if_pos (show okE [98] ([([120], [50])]) from by decide), show stepE [98] ([([120], [50])]) (([([97], [([120], [49]), ([121], [51])])] : List Ent)) = ([([97], [([120], [49]), ([121], [51])]), ([98], [([120], [50])])] : List Ent) from by decide] at C
  have HC := Lib.hid C
  clear C
  refine (HC.out).mono ?_
  rintro e W5 ⟨rfl, ρ2, tt⟩
  replace X := Lib.hid tt.ix
  replace B := Lib.hid (Trn.below B.out B.out.size tt.trn (fun i hi f => by have := FX.out i f; omega))
  replace Tlb := Lib.hid (Tlb.out.trn tt.trn)
  replace FX := Lib.hid (fa_turn (B := w.heap.size) FX.out tt SZ.out)
  replace SZ := Lib.hid B.out.size
  clear tt
  clear HC
  clear Tlb
  go_wp2_with fail
  have Tln : Hid (LbAt W5 none 0 0 []) := Lib.hid (LbAt.nil _ _ _)
  have C := iset_ok W5 x bl bn ρ2 (([([97], [([120], [49]), ([121], [51])]), ([98], [([120], [50])])] : List Ent)) [] none 0 0 ([]) X.out Tln.out
  rw [if_neg (show ¬ okE [] ([]) from by decide), show stepE [] ([]) (([([97], [([120], [49]), ([121], [51])]), ([98], [([120], [50])])] : List Ent)) = ([([97], [([120], [49]), ([121], [51])]), ([98], [([120], [50])])] : List Ent) from by decide] at C
  have HC := Lib.hid C
  clear C
  refine (HC.out).mono ?_
  rintro e W6 ⟨rfl, ρ3, tt⟩
  replace X := Lib.hid tt.ix
  replace B := Lib.hid (Trn.below B.out B.out.size tt.trn (fun i hi f => by have := FX.out i f; omega))
  replace Tln := Lib.hid (Tln.out.trn tt.trn)
  replace FX := Lib.hid (fa_turn (B := w.heap.size) FX.out tt SZ.out)
  replace SZ := Lib.hid B.out.size
  clear tt
  clear HC
  clear Tln
  go_wp2_with fail
  have Tlc : Hid (LbAt (W6.alloc (.cells #[.string ⟨#[120]⟩, .string ⟨#[50]⟩, .string ⟨#[120]⟩, .string ⟨#[51]⟩] 24)) (some ⟨W6.heap.size, 0, none⟩) 2 2 [([120], [50]), ([120], [51])]) := Lib.hid (lb_lit (l := [([120], [50]), ([120], [51])]) (heap_new W6 _) (by decide))
  have br := (Below.refl W6.heap.size W6).alloc (Nat.le_refl _) (.cells #[.string ⟨#[120]⟩, .string ⟨#[50]⟩, .string ⟨#[120]⟩, .string ⟨#[51]⟩] 24)
  replace B := Lib.hid (B.out.trans (br.mono B.out.size))
  replace X := Lib.hid (X.out.keep br)
  replace SZ := Lib.hid B.out.size
  clear br
  generalize W6.alloc (.cells #[.string ⟨#[120]⟩, .string ⟨#[50]⟩, .string ⟨#[120]⟩, .string ⟨#[51]⟩] 24) = W7 at *
  generalize W6.heap.size = b_lc at *
  have C := iset_ok W7 x bl bn ρ3 (([([97], [([120], [49]), ([121], [51])]), ([98], [([120], [50])])] : List Ent)) [99] (some ⟨b_lc, 0, none⟩) 2 2 ([([120], [50]), ([120], [51])]) X.out Tlc.out
  rw [if_neg (show ¬ okE [99] ([([120], [50]), ([120], [51])]) from by decide), show stepE [99] ([([120], [50]), ([120], [51])]) (([([97], [([120], [49]), ([121], [51])]), ([98], [([120], [50])])] : List Ent)) = ([([97], [([120], [49]), ([121], [51])]), ([98], [([120], [50])])] : List Ent) from by decide] at C
  have HC := Lib.hid C
  clear C
  refine (HC.out).mono ?_
  rintro e W8 ⟨rfl, ρ4, tt⟩
  replace X := Lib.hid tt.ix
  replace B := Lib.hid (Trn.below B.out B.out.size tt.trn (fun i hi f => by have := FX.out i f; omega))
  replace Tlc := Lib.hid (Tlc.out.trn tt.trn)
  replace FX := Lib.hid (fa_turn (B := w.heap.size) FX.out tt SZ.out)
  replace SZ := Lib.hid B.out.size
  clear tt
  clear HC
  clear Tlc
  go_wp2_with fail
  have C := ilabels_ok W8 x bl bn ρ4 (([([97], [([120], [49]), ([121], [51])]), ([98], [([120], [50])])] : List Ent)) [97] X.out
  rw [show (look (([([97], [([120], [49]), ([121], [51])]), ([98], [([120], [50])])] : List Ent)) [97]).getD [] = [([120], [49]), ([121], [51])] from by decide] at C
  have HC := Lib.hid C
  clear C
  refine (HC.out).mono ?_
  rintro e W9 ⟨a_l, c_l, rfl, Tl, br⟩
  replace Tl := Lib.hid Tl
  replace B := Lib.hid (B.out.trans (br.mono B.out.size))
  replace X := Lib.hid (X.out.keep br)
  replace SZ := Lib.hid B.out.size
  clear br
  clear HC
  replace Tl : Hid (LbAt W9 a_l 2 c_l [([120], [49]), ([121], [51])]) := Tl
  rw [show ([([120], [49]), ([121], [51])] : List Lb).length = 2 from rfl]
  go_wp2_with fail
  have C := ifind_ok W9 x bl bn ρ4 (([([97], [([120], [49]), ([121], [51])]), ([98], [([120], [50])])] : List Ent)) [120] [49] X.out (by decide)
  rw [show findE (([([97], [([120], [49]), ([121], [51])]), ([98], [([120], [50])])] : List Ent)) [120] [49] = [[97]] from by decide] at C
  have HC := Lib.hid C
  clear C
  refine (HC.out).mono ?_
  rintro e W10 ⟨a_f, c_f, rfl, Tf, br⟩
  replace Tf := Lib.hid Tf
  replace B := Lib.hid (B.out.trans (br.mono B.out.size))
  replace Tl := Lib.hid (Tl.out.keep br)
  replace X := Lib.hid (X.out.keep br)
  replace SZ := Lib.hid B.out.size
  clear br
  clear HC
  replace Tf : Hid (TxAt W10 a_f 1 c_f [[97]]) := Tf
  rw [show ([[97]] : List Tx).length = 1 from rfl]
  go_wp2_with fail
  have C := iwith_ok W10 x bl bn ρ4 (([([97], [([120], [49]), ([121], [51])]), ([98], [([120], [50])])] : List Ent)) [120] X.out (by decide)
  rw [show withE (([([97], [([120], [49]), ([121], [51])]), ([98], [([120], [50])])] : List Ent)) [120] = [[97], [98]] from by decide] at C
  have HC := Lib.hid C
  clear C
  refine (HC.out).mono ?_
  rintro e W11 ⟨a_w, c_w, rfl, Tw, br⟩
  replace Tw := Lib.hid Tw
  replace B := Lib.hid (B.out.trans (br.mono B.out.size))
  replace Tl := Lib.hid (Tl.out.keep br)
  replace Tf := Lib.hid (Tf.out.keep br)
  replace X := Lib.hid (X.out.keep br)
  replace SZ := Lib.hid B.out.size
  clear br
  clear HC
  replace Tw : Hid (TxAt W11 a_w 2 c_w [[97], [98]]) := Tw
  rw [show ([[97], [98]] : List Tx).length = 2 from rfl]
  go_wp2_with fail
  have C := isize_ok W11 x bl bn ρ4 (([([97], [([120], [49]), ([121], [51])]), ([98], [([120], [50])])] : List Ent)) X.out (by decide)
  rw [show sizeE (([([97], [([120], [49]), ([121], [51])]), ([98], [([120], [50])])] : List Ent)) = 3 from by decide] at C
  refine C.mono ?_
  clear C
  rintro e W12 ⟨rfl, br⟩
  replace B := Lib.hid (B.out.trans (br.mono B.out.size))
  replace Tl := Lib.hid (Tl.out.keep br)
  replace Tf := Lib.hid (Tf.out.keep br)
  replace Tw := Lib.hid (Tw.out.keep br)
  replace X := Lib.hid (X.out.keep br)
  replace SZ := Lib.hid B.out.size
  clear br
  go_wp2_with fail
  have C := idrop_ok W12 x bl bn ρ4 (([([97], [([120], [49]), ([121], [51])]), ([98], [([120], [50])])] : List Ent)) [97] X.out
  rw [decide_eq_true (show [97] ∈ keysL (([([97], [([120], [49]), ([121], [51])]), ([98], [([120], [50])])] : List Ent)) from by decide), show dels (([([97], [([120], [49]), ([121], [51])]), ([98], [([120], [50])])] : List Ent)) [97] = ([([98], [([120], [50])])] : List Ent) from by decide] at C
  have HC := Lib.hid C
  clear C
  refine (HC.out).mono ?_
  rintro e W13 ⟨rfl, tt⟩
  replace X := Lib.hid tt.ix
  replace B := Lib.hid (Trn.below B.out B.out.size tt.trn (fun i hi f => by have := FX.out i f; omega))
  replace Tl := Lib.hid (Tl.out.trn tt.trn)
  replace Tf := Lib.hid (Tf.out.trn tt.trn)
  replace Tw := Lib.hid (Tw.out.trn tt.trn)
  replace FX := Lib.hid (fa_turn (B := w.heap.size) FX.out tt SZ.out)
  replace SZ := Lib.hid B.out.size
  clear tt
  clear HC
  go_wp2_with fail
  have C := idrop_ok W13 x bl bn ρ4 (([([98], [([120], [50])])] : List Ent)) [97] X.out
  rw [decide_eq_false (show ¬ [97] ∈ keysL (([([98], [([120], [50])])] : List Ent)) from by decide), show dels (([([98], [([120], [50])])] : List Ent)) [97] = ([([98], [([120], [50])])] : List Ent) from by decide] at C
  have HC := Lib.hid C
  clear C
  refine (HC.out).mono ?_
  rintro e W14 ⟨rfl, tt⟩
  replace X := Lib.hid tt.ix
  replace B := Lib.hid (Trn.below B.out B.out.size tt.trn (fun i hi f => by have := FX.out i f; omega))
  replace Tl := Lib.hid (Tl.out.trn tt.trn)
  replace Tf := Lib.hid (Tf.out.trn tt.trn)
  replace Tw := Lib.hid (Tw.out.trn tt.trn)
  replace FX := Lib.hid (fa_turn (B := w.heap.size) FX.out tt SZ.out)
  replace SZ := Lib.hid B.out.size
  clear tt
  clear HC
  go_wp2_with fail
  have Tq1 : Hid (LbAt (W14.alloc (.cells #[.string ⟨#[120]⟩, .string ⟨#[49]⟩, .string ⟨#[121]⟩, .string ⟨#[51]⟩] 24)) (some ⟨W14.heap.size, 0, none⟩) 2 2 [([120], [49]), ([121], [51])]) := Lib.hid (lb_lit (l := [([120], [49]), ([121], [51])]) (heap_new W14 _) (by decide))
  have br := (Below.refl W14.heap.size W14).alloc (Nat.le_refl _) (.cells #[.string ⟨#[120]⟩, .string ⟨#[49]⟩, .string ⟨#[121]⟩, .string ⟨#[51]⟩] 24)
  replace B := Lib.hid (B.out.trans (br.mono B.out.size))
  replace Tl := Lib.hid (Tl.out.keep br)
  replace Tf := Lib.hid (Tf.out.keep br)
  replace Tw := Lib.hid (Tw.out.keep br)
  replace X := Lib.hid (X.out.keep br)
  replace SZ := Lib.hid B.out.size
  clear br
  generalize W14.alloc (.cells #[.string ⟨#[120]⟩, .string ⟨#[49]⟩, .string ⟨#[121]⟩, .string ⟨#[51]⟩] 24) = W15 at *
  generalize W14.heap.size = b_q1 at *
  have C := same9_any a_l 2 c_l ([([120], [49]), ([121], [51])]) (some ⟨b_q1, 0, none⟩) 2 2 ([([120], [49]), ([121], [51])]) W15 Tl.out Tq1.out
  rw [decide_eq_true (show ([([120], [49]), ([121], [51])] : List Lb) = ([([120], [49]), ([121], [51])] : List Lb) from rfl)] at C
  refine C.mono ?_
  clear C
  rintro e W16 ⟨rfl, hd⟩
  have br := hd.bel
  clear hd
  replace B := Lib.hid (B.out.trans (br.mono B.out.size))
  replace Tl := Lib.hid (Tl.out.keep br)
  replace Tf := Lib.hid (Tf.out.keep br)
  replace Tw := Lib.hid (Tw.out.keep br)
  replace Tq1 := Lib.hid (Tq1.out.keep br)
  replace X := Lib.hid (X.out.keep br)
  replace SZ := Lib.hid B.out.size
  clear br
  clear Tq1
  go_wp2_with fail
  have Tq2 : Hid (TxAt (W16.alloc (.cells #[.string ⟨#[97]⟩] 9)) (some ⟨W16.heap.size, 0, none⟩) 1 1 [[97]]) := Lib.hid (tx_lit (l := [[97]]) (heap_new W16 _))
  have br := (Below.refl W16.heap.size W16).alloc (Nat.le_refl _) (.cells #[.string ⟨#[97]⟩] 9)
  replace B := Lib.hid (B.out.trans (br.mono B.out.size))
  replace Tl := Lib.hid (Tl.out.keep br)
  replace Tf := Lib.hid (Tf.out.keep br)
  replace Tw := Lib.hid (Tw.out.keep br)
  replace X := Lib.hid (X.out.keep br)
  replace SZ := Lib.hid B.out.size
  clear br
  generalize W16.alloc (.cells #[.string ⟨#[97]⟩] 9) = W17 at *
  generalize W16.heap.size = b_q2 at *
  have C := same8_any a_f 1 c_f ([[97]]) (some ⟨b_q2, 0, none⟩) 1 1 ([[97]]) W17 Tf.out Tq2.out
  rw [decide_eq_true (show ([[97]] : List Tx) = ([[97]] : List Tx) from rfl)] at C
  refine C.mono ?_
  clear C
  rintro e W18 ⟨rfl, hd⟩
  have br := hd.bel
  clear hd
  replace B := Lib.hid (B.out.trans (br.mono B.out.size))
  replace Tl := Lib.hid (Tl.out.keep br)
  replace Tf := Lib.hid (Tf.out.keep br)
  replace Tw := Lib.hid (Tw.out.keep br)
  replace Tq2 := Lib.hid (Tq2.out.keep br)
  replace X := Lib.hid (X.out.keep br)
  replace SZ := Lib.hid B.out.size
  clear br
  clear Tq2
  clear Tf
  go_wp2_with fail
  have Tq3 : Hid (TxAt (W18.alloc (.cells #[.string ⟨#[97]⟩, .string ⟨#[98]⟩] 9)) (some ⟨W18.heap.size, 0, none⟩) 2 2 [[97], [98]]) := Lib.hid (tx_lit (l := [[97], [98]]) (heap_new W18 _))
  have br := (Below.refl W18.heap.size W18).alloc (Nat.le_refl _) (.cells #[.string ⟨#[97]⟩, .string ⟨#[98]⟩] 9)
  replace B := Lib.hid (B.out.trans (br.mono B.out.size))
  replace Tl := Lib.hid (Tl.out.keep br)
  replace Tw := Lib.hid (Tw.out.keep br)
  replace X := Lib.hid (X.out.keep br)
  replace SZ := Lib.hid B.out.size
  clear br
  generalize W18.alloc (.cells #[.string ⟨#[97]⟩, .string ⟨#[98]⟩] 9) = W19 at *
  generalize W18.heap.size = b_q3 at *
  have C := same8_any a_w 2 c_w ([[97], [98]]) (some ⟨b_q3, 0, none⟩) 2 2 ([[97], [98]]) W19 Tw.out Tq3.out
  rw [decide_eq_true (show ([[97], [98]] : List Tx) = ([[97], [98]] : List Tx) from rfl)] at C
  refine C.mono ?_
  clear C
  rintro e W20 ⟨rfl, hd⟩
  have br := hd.bel
  clear hd
  replace B := Lib.hid (B.out.trans (br.mono B.out.size))
  replace Tl := Lib.hid (Tl.out.keep br)
  replace Tw := Lib.hid (Tw.out.keep br)
  replace Tq3 := Lib.hid (Tq3.out.keep br)
  replace X := Lib.hid (X.out.keep br)
  replace SZ := Lib.hid B.out.size
  clear br
  clear Tq3
  clear Tw
  go_wp2_with fail
  have C := ikeys_ok W20 x bl bn ρ4 (([([98], [([120], [50])])] : List Ent)) X.out (by decide)
  rw [show keysL (([([98], [([120], [50])])] : List Ent)) = [[98]] from by decide] at C
  have HC := Lib.hid C
  clear C
  refine (HC.out).mono ?_
  rintro e W21 ⟨a_k, c_k, rfl, Tk, br⟩
  replace Tk := Lib.hid Tk
  replace B := Lib.hid (B.out.trans (br.mono B.out.size))
  replace Tl := Lib.hid (Tl.out.keep br)
  replace X := Lib.hid (X.out.keep br)
  replace SZ := Lib.hid B.out.size
  clear br
  clear HC
  replace Tk : Hid (TxAt W21 a_k 1 c_k [[98]]) := Tk
  rw [show ([[98]] : List Tx).length = 1 from rfl]
  go_wp2_with fail
  have Tq4 : Hid (TxAt (W21.alloc (.cells #[.string ⟨#[98]⟩] 9)) (some ⟨W21.heap.size, 0, none⟩) 1 1 [[98]]) := Lib.hid (tx_lit (l := [[98]]) (heap_new W21 _))
  have br := (Below.refl W21.heap.size W21).alloc (Nat.le_refl _) (.cells #[.string ⟨#[98]⟩] 9)
  replace B := Lib.hid (B.out.trans (br.mono B.out.size))
  replace Tl := Lib.hid (Tl.out.keep br)
  replace Tk := Lib.hid (Tk.out.keep br)
  replace X := Lib.hid (X.out.keep br)
  replace SZ := Lib.hid B.out.size
  clear br
  generalize W21.alloc (.cells #[.string ⟨#[98]⟩] 9) = W22 at *
  generalize W21.heap.size = b_q4 at *
  have C := same8_any a_k 1 c_k ([[98]]) (some ⟨b_q4, 0, none⟩) 1 1 ([[98]]) W22 Tk.out Tq4.out
  rw [decide_eq_true (show ([[98]] : List Tx) = ([[98]] : List Tx) from rfl)] at C
  refine C.mono ?_
  clear C
  rintro e W23 ⟨rfl, hd⟩
  have br := hd.bel
  clear hd
  replace B := Lib.hid (B.out.trans (br.mono B.out.size))
  replace Tl := Lib.hid (Tl.out.keep br)
  replace Tk := Lib.hid (Tk.out.keep br)
  replace Tq4 := Lib.hid (Tq4.out.keep br)
  replace X := Lib.hid (X.out.keep br)
  replace SZ := Lib.hid B.out.size
  clear br
  clear Tq4
  clear Tk
  go_wp2_with fail
  have C := ihas_ok W23 x bl bn ρ4 (([([98], [([120], [50])])] : List Ent)) [98] X.out
  rw [decide_eq_true (show [98] ∈ keysL (([([98], [([120], [50])])] : List Ent)) from by decide)] at C
  refine C.mono ?_
  clear C
  rintro e w' ⟨rfl, rfl⟩
  go_wp2_with fail
  have C := ihas_ok W23 x bl bn ρ4 (([([98], [([120], [50])])] : List Ent)) [97] X.out
  rw [decide_eq_false (show ¬ [97] ∈ keysL (([([98], [([120], [50])])] : List Ent)) from by decide)] at C
  refine C.mono ?_
  clear C
  rintro e w' ⟨rfl, rfl⟩
  go_wp2_with fail
  have C := key_any [97] W23
  rw [decide_eq_true (show keyB [97] from by decide)] at C
  refine C.mono ?_
  clear C
  rintro e w' ⟨rfl, rfl⟩
  go_wp2_with fail
  have C := key_any [] W23
  rw [decide_eq_false (show ¬ keyB [] from by decide)] at C
  refine C.mono ?_
  clear C
  rintro e w' ⟨rfl, rfl⟩
  go_wp2_with fail
  have C := right9_any a_l 2 c_l ([([120], [49]), ([121], [51])]) W23 Tl.out
  rw [decide_eq_true (show rightL ([([120], [49]), ([121], [51])]) from by decide)] at C
  refine C.mono ?_
  clear C
  rintro e W24 ⟨rfl, br⟩
  replace B := Lib.hid (B.out.trans (br.mono B.out.size))
  replace Tl := Lib.hid (Tl.out.keep br)
  replace X := Lib.hid (X.out.keep br)
  replace SZ := Lib.hid B.out.size
  clear br
  go_wp2_with fail
  refine (icopy_ok W24 x bl bn ρ4 (([([98], [([120], [50])])] : List Ent)) X.out).mono ?_
  rintro e W25 ⟨y, b2, n2, ρc, rfl, _, br, _⟩
  replace B := Lib.hid (B.out.trans (br.mono B.out.size))
  replace Tl := Lib.hid (Tl.out.keep br)
  replace X := Lib.hid (X.out.keep br)
  go_wp2
  go_ret
  exact ⟨rfl, B.out⟩

end Go.Proofs.Ytpkbkemenfdadaa
