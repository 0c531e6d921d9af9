/-
  Contracts.
-/
import Derived.Test.YtmifpfojhlmbkaaGreatJ23
import Derived.Test.YtmifpfojhlmbkaaGreatJ30
import Derived.Test.YtmifpfojhlmbkaaGreatJ43
import Derived.Test.YtmifpfojhlmbkaaGreatJ44
import Derived.ChangeSlices
import Derived.Deep.Slices
import Derived.Deep.SlicePairs
import Derived.ProofKit
import Derived.OpenShut
import Derived.SliceStrings
namespace Go.Proofs.YtmifpfojhlmbkaaGreat
open Lib (hid)
set_option maxRecDepth 100000
set_option maxHeartbeats 16000000
open Go.RowKit
set_option linter.unusedVariables false
set_option linter.unusedSimpArgs false
theorem tx_lit12 {W : World} {b : Nat} {l : List Tx} {t : TypeId} (h : W.heap[b]? = some (.cells (l.map tc).toArray t (0, 0))) (hl : l.length ≤ 9223372036854775807 := by simp) : TxAt W (some ⟨b, 0, none⟩) l.length l.length l :=
  ⟨rfl, Nat.le_refl _, hl, .inr ⟨b, 0, rfl, heap_lt h, fun i hi => by
    rw [cell_of h, Nat.zero_add, List.getElem?_toArray, List.getElem?_map, List.getElem?_eq_getElem hi, getD_get hi]; rfl⟩⟩
theorem qv100 : qv q100 none 0 0 = .agg #[.int .i64 0, .int .i64 100, .bool false, .int .i64 0, .int .i64 0, .int .i64 0, .int .i64 0, .bool false, .slice none 0 0, .bool false, .int .i64 0, .int .i64 0] := rfl
theorem qvz : qv qz none 0 0 = .agg #[.int .i64 0, .int .i64 0, .bool false, .int .i64 0, .int .i64 0, .int .i64 0, .int .i64 0, .bool false, .slice none 0 0, .bool false, .int .i64 0, .int .i64 0] := rfl
theorem int_nil (W : World) : IntAt W none 0 0 [] := ⟨rfl, Nat.le_refl _, by omega, by simp, .inl rfl⟩
theorem known12_any (w : World) :
    Calls Tryz.prog 14 #[] w fun e w' => e = .returned (.bool true) ∧ Below w.heap.size w w' := by
  go_enter Tryz.func14, Tryz.ntmps14
  go_wp2_with fail
  refine (hNew _).mono ?_
  rintro e W1 ⟨x, m1, rfl, hs, hx, hb, ho⟩
  have X : Hid (HOwn w.heap.size w W1 x m1 k0) := hid (HOwn.new (Below.refl _ _) (Nat.le_refl _) hs hb hx ho)
  clear hs hx hb ho
  have LR : Hid (LRw (W1.alloc (.cells #[.string ⟨#[120]⟩, .string ⟨#[49]⟩] 100)) W1.heap.size lx) := hid (heap_new W1 _)
  have br1 := (Below.refl W1.heap.size W1).alloc (Nat.le_refl _) (.cells #[.string ⟨#[120]⟩, .string ⟨#[49]⟩] 100)
  have hs2 : (W1.alloc (.cells #[.string ⟨#[120]⟩, .string ⟨#[49]⟩] 100)).heap.size = W1.heap.size + 1 := by simp
  replace X := hid (X.out.keep br1)
  have HS2 := hid hs2
  clear br1 hs2
  go_wp2_with fail
  generalize W1.alloc (.cells #[.string ⟨#[120]⟩, .string ⟨#[49]⟩] 100) = W2 at *
  generalize W1.heap.size = b at *
  have BX : Hid (BoxN (W2.alloc (.cells #[.int .i64 128, .int .i64 0, .int .i64 1, .slice (some ⟨b, 0, none⟩) 1 1] 30)) (b + 1) 128 0 1 (.slice (some ⟨b, 0, none⟩) 1 1)) := hid (by rw [← HS2.out]; exact heap_new W2 _)
  have br := (Below.refl W2.heap.size W2).alloc (Nat.le_refl _) (.cells #[.int .i64 128, .int .i64 0, .int .i64 1, .slice (some ⟨b, 0, none⟩) 1 1] 30)
  replace X := hid (X.out.keep br)
  replace LR := hid (LR.out.ts (.of (F := fun _ => False) br))
  clear br HS2
  generalize W2.alloc (.cells #[.int .i64 128, .int .i64 0, .int .i64 1, .slice (some ⟨b, 0, none⟩) 1 1] 30) = W3 at *
  generalize b + 1 = b2 at *
  have C := oCreate X.out ta 128 0 1 (some ⟨b, 0, none⟩) 1 1 lx LR.out.at_
  rw [show cSp k0 ta 128 0 1 lx = k1 from rfl, k1e] at C
  replace C := hid C
  refine C.out.mono ?_
  rintro e W4 ⟨rfl, m4, oo, tt⟩
  clear C
  replace X := hid oo
  replace BX := hid (BX.out.ts tt)
  replace LR := hid (LR.out.ts tt)
  clear tt oo
  have q0 := BX.out.x0
  have q1 := BX.out.x1
  have q2 := BX.out.x2
  have q3 := BX.out.x3
  go_wp2_with fail
  clear q0 q1 q2 q3
  have C := oCreate X.out tb 128 0 1 (some ⟨b, 0, none⟩) 1 1 lx LR.out.at_
  rw [show cSp k1 tb 128 0 1 lx = k2 from rfl, k2e] at C
  replace C := hid C
  refine C.out.mono ?_
  rintro e W5 ⟨rfl, m5, oo, tt⟩
  clear C
  replace X := hid oo
  replace BX := hid (BX.out.ts tt)
  replace LR := hid (LR.out.ts tt)
  clear tt oo
  have q0 := BX.out.x0
  have q1 := BX.out.x1
  have q2 := BX.out.x2
  have q3 := BX.out.x3
  go_wp2_with fail
  clear q0 q1 q2 q3
  have C := oCreate X.out ta 128 0 1 (some ⟨b, 0, none⟩) 1 1 lx LR.out.at_
  rw [k2s, k2f] at C
  replace C := hid C
  refine C.out.mono ?_
  rintro e W6 ⟨rfl, m6, oo, tt⟩
  clear C
  replace X := hid oo
  replace BX := hid (BX.out.ts tt)
  replace LR := hid (LR.out.ts tt)
  clear tt oo
  have C := oLink X.out rab few2
  rw [show kSp k2 rab = k3 from rfl, k3e] at C
  replace C := hid C
  go_wp2_with fail
  refine C.out.mono ?_
  rintro e W7 ⟨rfl, m7, oo, tt⟩
  clear C
  replace X := hid oo
  replace BX := hid (BX.out.ts tt)
  replace LR := hid (LR.out.ts tt)
  clear tt oo
  have C := oAdd X.out ta 1 5 0 few3 (by unfold in64; omega)
  rw [show aSp k3 ta 1 5 0 = k4 from rfl, k4e] at C
  replace C := hid C
  go_wp2_with fail
  refine C.out.mono ?_
  rintro e W8 ⟨rfl, m8, oo, tt⟩
  clear C
  replace X := hid oo
  replace BX := hid (BX.out.ts tt)
  replace LR := hid (LR.out.ts tt)
  clear tt oo
  have C := oAdd X.out ta 5 6 0 few4 (by unfold in64; omega)
  rw [show aSp k4 ta 5 6 0 = k5 from rfl, k5e] at C
  replace C := hid C
  go_wp2_with fail
  refine C.out.mono ?_
  rintro e W9 ⟨rfl, m9, oo, tt⟩
  clear C
  replace X := hid oo
  replace BX := hid (BX.out.ts tt)
  replace LR := hid (LR.out.ts tt)
  clear tt oo
  have C := oTell X.out tb q100 none 0 0 few5 (int_nil _)
  rw [k5t, qv100] at C
  replace C := hid C
  go_wp2_with fail
  refine C.out.mono ?_
  rintro e W10 ⟨a_l, n_l, c_l, rfl, ll, br⟩
  have e_l := ll.len
  replace e_l : 0 = n_l := e_l
  subst e_l
  clear C
  have Rl := hid ll
  clear ll
  replace X := hid (X.out.keep br)
  replace BX := hid (BX.out.ts (.of (F := fun _ => False) br))
  replace LR := hid (LR.out.ts (.of (F := fun _ => False) br))
  clear br
  have C := oInc X.out ta 12 1 few5 (by unfold in64; omega)
  rw [show iSp k5 ta 12 1 = k6 from rfl, k6v, k6e] at C
  replace C := hid C
  go_wp2_with fail
  refine C.out.mono ?_
  rintro e W11 ⟨rfl, m11, oo, tt⟩
  clear C
  replace X := hid oo
  replace BX := hid (BX.out.ts tt)
  replace LR := hid (LR.out.ts tt)
  replace Rl := hid (tt.samp Rl.out)
  clear tt oo
  have C := oTell X.out tb q100 none 0 0 few6 (int_nil _)
  rw [k6t, qv100] at C
  replace C := hid C
  go_wp2_with fail
  refine C.out.mono ?_
  rintro e W12 ⟨a_m, n_m, c_m, rfl, ll, br⟩
  have e_m := ll.len
  replace e_m : 1 = n_m := e_m
  subst e_m
  clear C
  have Rm := hid ll
  clear ll
  replace X := hid (X.out.keep br)
  replace BX := hid (BX.out.ts (.of (F := fun _ => False) br))
  replace LR := hid (LR.out.ts (.of (F := fun _ => False) br))
  replace Rl := hid ((Ts.of (F := fun _ => False) br).samp Rl.out)
  clear br
  have C := oAdd X.out tb 1 5 0 few6 (by unfold in64; omega)
  rw [k6s, k6f] at C
  replace C := hid C
  go_wp2_with fail
  refine C.out.mono ?_
  rintro e W13 ⟨rfl, m13, oo, tt⟩
  clear C
  replace X := hid oo
  replace BX := hid (BX.out.ts tt)
  replace LR := hid (LR.out.ts tt)
  replace Rl := hid (tt.samp Rl.out)
  replace Rm := hid (tt.samp Rm.out)
  clear tt oo
  have C := oDel X.out ta 5 5 few6
  rw [show dSp k6 ta 5 5 = k7 from rfl, k7n, k7e] at C
  replace C := hid C
  go_wp2_with fail
  refine C.out.mono ?_
  rintro e W14 ⟨rfl, m14, oo, tt⟩
  clear C
  replace X := hid oo
  replace BX := hid (BX.out.ts tt)
  replace LR := hid (LR.out.ts tt)
  replace Rl := hid (tt.samp Rl.out)
  replace Rm := hid (tt.samp Rm.out)
  clear tt oo
  have C := oTell X.out tb q100 none 0 0 few7 (int_nil _)
  rw [k7t, qv100] at C
  replace C := hid C
  go_wp2_with fail
  refine C.out.mono ?_
  rintro e W15 ⟨a_p, n_p, c_p, rfl, ll, br⟩
  have e_p := ll.len
  replace e_p : 1 = n_p := e_p
  subst e_p
  clear C
  have Rp := hid ll
  clear ll
  replace X := hid (X.out.keep br)
  replace BX := hid (BX.out.ts (.of (F := fun _ => False) br))
  replace LR := hid (LR.out.ts (.of (F := fun _ => False) br))
  replace Rl := hid ((Ts.of (F := fun _ => False) br).samp Rl.out)
  replace Rm := hid ((Ts.of (F := fun _ => False) br).samp Rm.out)
  clear br
  have C := hOptions_ok _ x _ k7 ta X.out.sp k7h
  unfold OptP at C
  rw [k7o.1, k7o.2.1, k7o.2.2.1, k7o.2.2.2] at C
  replace C := hid C
  go_wp2_with fail
  refine C.out.mono ?_
  rintro e W16 ⟨a_q, c_q, rfl, ll, br⟩
  clear C ll
  replace X := hid (X.out.keep br)
  replace BX := hid (BX.out.ts (.of (F := fun _ => False) br))
  replace LR := hid (LR.out.ts (.of (F := fun _ => False) br))
  replace Rl := hid ((Ts.of (F := fun _ => False) br).samp Rl.out)
  replace Rm := hid ((Ts.of (F := fun _ => False) br).samp Rm.out)
  replace Rp := hid ((Ts.of (F := fun _ => False) br).samp Rp.out)
  clear br
  go_wp2_with fail
  have br := (Below.refl W16.heap.size W16).alloc (Nat.le_refl _) (.cells #[.int .i64 128, .int .i64 0, .int .i64 1, .slice a_q lx.length c_q] 30)
  have bn : BoxN (W16.alloc (.cells #[.int .i64 128, .int .i64 0, .int .i64 1, .slice a_q lx.length c_q] 30)) W16.heap.size 128 0 1 (.slice a_q lx.length c_q) := heap_new W16 _
  replace X := hid (X.out.keep br)
  replace BX := hid (BX.out.ts (.of (F := fun _ => False) br))
  replace LR := hid (LR.out.ts (.of (F := fun _ => False) br))
  replace Rl := hid ((Ts.of (F := fun _ => False) br).samp Rl.out)
  replace Rm := hid ((Ts.of (F := fun _ => False) br).samp Rm.out)
  replace Rp := hid ((Ts.of (F := fun _ => False) br).samp Rp.out)
  have BQ := hid bn
  clear br bn
  generalize W16.alloc (.cells #[.int .i64 128, .int .i64 0, .int .i64 1, .slice a_q lx.length c_q] 30) = W17 at *
  generalize W16.heap.size = b_BQ at *
  have C := oTell X.out [99] qz none 0 0 few7 (int_nil _)
  rw [k7c, qvz] at C
  replace C := hid C
  refine C.out.mono ?_
  rintro e W18 ⟨a_c, n_c, c_c, rfl, ll, br⟩
  have e_c := ll.len
  replace e_c : 0 = n_c := e_c
  subst e_c
  clear C
  have Rc := hid ll
  clear ll
  replace X := hid (X.out.keep br)
  replace BX := hid (BX.out.ts (.of (F := fun _ => False) br))
  replace LR := hid (LR.out.ts (.of (F := fun _ => False) br))
  replace Rl := hid ((Ts.of (F := fun _ => False) br).samp Rl.out)
  replace Rm := hid ((Ts.of (F := fun _ => False) br).samp Rm.out)
  replace Rp := hid ((Ts.of (F := fun _ => False) br).samp Rp.out)
  replace BQ := hid (BQ.out.ts (.of (F := fun _ => False) br))
  clear br
  have C := oUnlink X.out ta tb few7
  rw [show uSp k7 ta tb = k8 from rfl, k8e] at C
  replace C := hid C
  go_wp2_with fail
  refine C.out.mono ?_
  rintro e W19 ⟨rfl, m19, oo, tt⟩
  clear C
  replace X := hid oo
  replace BX := hid (BX.out.ts tt)
  replace LR := hid (LR.out.ts tt)
  replace Rl := hid (tt.samp Rl.out)
  replace Rm := hid (tt.samp Rm.out)
  replace Rp := hid (tt.samp Rp.out)
  replace BQ := hid (BQ.out.ts tt)
  replace Rc := hid (tt.samp Rc.out)
  clear tt oo
  go_wp2_with fail
  have br := (Below.refl W19.heap.size W19).alloc (Nat.le_refl _) (.cells #[.int .i64 0, .int .i64 11] 27)
  have bn : SampAt (W19.alloc (.cells #[.int .i64 0, .int .i64 11] 27)) (some ⟨W19.heap.size, 0, none⟩) 1 1 [(0, 11)] := samp_lit (heap_new W19 _) (by rfl) (by intro u hu; rw [List.mem_singleton.1 hu]; unfold in64; omega) (by simp)
  replace X := hid (X.out.keep br)
  replace BX := hid (BX.out.ts (.of (F := fun _ => False) br))
  replace LR := hid (LR.out.ts (.of (F := fun _ => False) br))
  replace Rl := hid ((Ts.of (F := fun _ => False) br).samp Rl.out)
  replace Rm := hid ((Ts.of (F := fun _ => False) br).samp Rm.out)
  replace Rp := hid ((Ts.of (F := fun _ => False) br).samp Rp.out)
  replace BQ := hid (BQ.out.ts (.of (F := fun _ => False) br))
  replace Rc := hid ((Ts.of (F := fun _ => False) br).samp Rc.out)
  have Zm := hid bn
  clear br bn
  generalize W19.alloc (.cells #[.int .i64 0, .int .i64 11] 27) = W20 at *
  generalize W19.heap.size = b_Zm at *
  have C := same_any a_m (some ⟨b_Zm, 0, none⟩) 1 1 c_m 1 [(0, 11)] [(0, 11)] _ Rm.out.1 Zm.out
  rw [decide_eq_true (rfl : ([(0, 11)] : List (Int × Int)) = [(0, 11)])] at C
  replace C := hid C
  refine C.out.mono ?_
  rintro e W21 ⟨rfl, hd⟩
  have br := hd.bel
  clear C hd Zm
  replace X := hid (X.out.keep br)
  replace BX := hid (BX.out.ts (.of (F := fun _ => False) br))
  replace LR := hid (LR.out.ts (.of (F := fun _ => False) br))
  replace Rl := hid ((Ts.of (F := fun _ => False) br).samp Rl.out)
  replace Rm := hid ((Ts.of (F := fun _ => False) br).samp Rm.out)
  replace Rp := hid ((Ts.of (F := fun _ => False) br).samp Rp.out)
  replace BQ := hid (BQ.out.ts (.of (F := fun _ => False) br))
  replace Rc := hid ((Ts.of (F := fun _ => False) br).samp Rc.out)
  clear br
  go_wp2_with fail
  have br := (Below.refl W21.heap.size W21).alloc (Nat.le_refl _) (.cells #[.int .i64 0, .int .i64 5] 27)
  have bn : SampAt (W21.alloc (.cells #[.int .i64 0, .int .i64 5] 27)) (some ⟨W21.heap.size, 0, none⟩) 1 1 [(0, 5)] := samp_lit (heap_new W21 _) (by rfl) (by intro u hu; rw [List.mem_singleton.1 hu]; unfold in64; omega) (by simp)
  replace X := hid (X.out.keep br)
  replace BX := hid (BX.out.ts (.of (F := fun _ => False) br))
  replace LR := hid (LR.out.ts (.of (F := fun _ => False) br))
  replace Rl := hid ((Ts.of (F := fun _ => False) br).samp Rl.out)
  replace Rm := hid ((Ts.of (F := fun _ => False) br).samp Rm.out)
  replace Rp := hid ((Ts.of (F := fun _ => False) br).samp Rp.out)
  replace BQ := hid (BQ.out.ts (.of (F := fun _ => False) br))
  replace Rc := hid ((Ts.of (F := fun _ => False) br).samp Rc.out)
  have Zp := hid bn
  clear br bn
  generalize W21.alloc (.cells #[.int .i64 0, .int .i64 5] 27) = W22 at *
  generalize W21.heap.size = b_Zp at *
  have C := same_any a_p (some ⟨b_Zp, 0, none⟩) 1 1 c_p 1 [(0, 5)] [(0, 5)] _ Rp.out.1 Zp.out
  rw [decide_eq_true (rfl : ([(0, 5)] : List (Int × Int)) = [(0, 5)])] at C
  replace C := hid C
  refine C.out.mono ?_
  rintro e W23 ⟨rfl, hd⟩
  have br := hd.bel
  clear C hd Zp
  replace X := hid (X.out.keep br)
  replace BX := hid (BX.out.ts (.of (F := fun _ => False) br))
  replace LR := hid (LR.out.ts (.of (F := fun _ => False) br))
  replace Rl := hid ((Ts.of (F := fun _ => False) br).samp Rl.out)
  replace Rm := hid ((Ts.of (F := fun _ => False) br).samp Rm.out)
  replace Rp := hid ((Ts.of (F := fun _ => False) br).samp Rp.out)
  replace BQ := hid (BQ.out.ts (.of (F := fun _ => False) br))
  replace Rc := hid ((Ts.of (F := fun _ => False) br).samp Rc.out)
  clear br
  have q0 := BQ.out.x0
  go_wp2_with fail
  clear q0
  have C := hRules _ x _ k8 X.out.sp (Nat.le_trans few8.g (by omega))
  rw [k8g] at C
  replace C := hid C
  refine C.out.mono ?_
  rintro e W24 ⟨v, rfl, rr, br⟩
  obtain ⟨a_r, c_r, rfl, _, _⟩ := rr.shape
  clear C rr
  replace X := hid (X.out.keep br)
  replace BX := hid (BX.out.ts (.of (F := fun _ => False) br))
  replace LR := hid (LR.out.ts (.of (F := fun _ => False) br))
  replace Rl := hid ((Ts.of (F := fun _ => False) br).samp Rl.out)
  replace Rm := hid ((Ts.of (F := fun _ => False) br).samp Rm.out)
  replace Rp := hid ((Ts.of (F := fun _ => False) br).samp Rp.out)
  replace BQ := hid (BQ.out.ts (.of (F := fun _ => False) br))
  replace Rc := hid ((Ts.of (F := fun _ => False) br).samp Rc.out)
  clear br
  go_wp2_with fail
  have C := hKeys _ x _ k8 X.out.sp (Nat.le_trans few8.e (by omega))
  rw [k8k] at C
  replace C := hid C
  refine C.out.mono ?_
  rintro e W25 ho
  obtain ⟨a_k, c_k, rfl, tk, br⟩ := ho.to
  have TK := hid tk
  clear C tk ho
  replace X := hid (X.out.keep br)
  replace BX := hid (BX.out.ts (.of (F := fun _ => False) br))
  replace LR := hid (LR.out.ts (.of (F := fun _ => False) br))
  replace Rl := hid ((Ts.of (F := fun _ => False) br).samp Rl.out)
  replace Rm := hid ((Ts.of (F := fun _ => False) br).samp Rm.out)
  replace Rp := hid ((Ts.of (F := fun _ => False) br).samp Rp.out)
  replace BQ := hid (BQ.out.ts (.of (F := fun _ => False) br))
  replace Rc := hid ((Ts.of (F := fun _ => False) br).samp Rc.out)
  clear br
  go_wp2_with fail
  replace TK := hid (TK.out.keep ((Below.refl W25.heap.size W25).alloc (Nat.le_refl _) (.cells #[.string ⟨#[97]⟩, .string ⟨#[98]⟩] 9)))
  have br := (Below.refl W25.heap.size W25).alloc (Nat.le_refl _) (.cells #[.string ⟨#[97]⟩, .string ⟨#[98]⟩] 9)
  have bn : TxAt (W25.alloc (.cells #[.string ⟨#[97]⟩, .string ⟨#[98]⟩] 9)) (some ⟨W25.heap.size, 0, none⟩) 2 2 [ta, tb] := tx_lit12 (l := [ta, tb]) (heap_new W25 _)
  replace X := hid (X.out.keep br)
  replace BX := hid (BX.out.ts (.of (F := fun _ => False) br))
  replace LR := hid (LR.out.ts (.of (F := fun _ => False) br))
  replace Rl := hid ((Ts.of (F := fun _ => False) br).samp Rl.out)
  replace Rm := hid ((Ts.of (F := fun _ => False) br).samp Rm.out)
  replace Rp := hid ((Ts.of (F := fun _ => False) br).samp Rp.out)
  replace BQ := hid (BQ.out.ts (.of (F := fun _ => False) br))
  replace Rc := hid ((Ts.of (F := fun _ => False) br).samp Rc.out)
  have ZK := hid bn
  clear br bn
  generalize W25.alloc (.cells #[.string ⟨#[97]⟩, .string ⟨#[98]⟩] 9) = W26 at *
  generalize W25.heap.size = b_ZK at *
  have C := same8_any a_k 2 c_k [ta, tb] (some ⟨b_ZK, 0, none⟩) 2 2 [ta, tb] _ TK.out ZK.out
  rw [decide_eq_true (rfl : [ta, tb] = [ta, tb])] at C
  replace C := hid C
  refine C.out.mono ?_
  rintro e W27 ⟨rfl, hd⟩
  have br := hd.bel
  clear C hd ZK TK
  replace X := hid (X.out.keep br)
  replace BX := hid (BX.out.ts (.of (F := fun _ => False) br))
  replace LR := hid (LR.out.ts (.of (F := fun _ => False) br))
  replace Rl := hid ((Ts.of (F := fun _ => False) br).samp Rl.out)
  replace Rm := hid ((Ts.of (F := fun _ => False) br).samp Rm.out)
  replace Rp := hid ((Ts.of (F := fun _ => False) br).samp Rp.out)
  replace BQ := hid (BQ.out.ts (.of (F := fun _ => False) br))
  replace Rc := hid ((Ts.of (F := fun _ => False) br).samp Rc.out)
  clear br
  go_wp2_with fail
  have C := hSeries_ok _ x _ k8 ta X.out.sp k8h (by rw [k8l]; omega)
  unfold SerP at C
  rw [k8z] at C
  replace C := hid C
  refine C.out.mono ?_
  rintro e W28 ⟨o, rfl, _, so, br⟩
  have C2 := len_ser o 128 _ _ so (by omega) (by rw [k8l]; omega)
  rw [k8l] at C2
  replace C2 := hid C2
  clear C so
  replace X := hid (X.out.keep br)
  replace BX := hid (BX.out.ts (.of (F := fun _ => False) br))
  replace LR := hid (LR.out.ts (.of (F := fun _ => False) br))
  replace Rl := hid ((Ts.of (F := fun _ => False) br).samp Rl.out)
  replace Rm := hid ((Ts.of (F := fun _ => False) br).samp Rm.out)
  replace Rp := hid ((Ts.of (F := fun _ => False) br).samp Rp.out)
  replace BQ := hid (BQ.out.ts (.of (F := fun _ => False) br))
  replace Rc := hid ((Ts.of (F := fun _ => False) br).samp Rc.out)
  clear br
  go_wp2_with fail
  refine C2.out.mono ?_
  rintro e W ⟨rfl, rfl⟩
  clear C2
  have C := oDrop X.out ta few8
  rw [show goSp k8 ta = k9 from rfl, decide_eq_true k8h] at C
  replace C := hid C
  go_wp2_with fail
  refine C.out.mono ?_
  rintro e W29 ⟨rfl, m29, oo, tt⟩
  clear C
  replace X := hid oo
  replace BX := hid (BX.out.ts tt)
  replace LR := hid (LR.out.ts tt)
  replace Rl := hid (tt.samp Rl.out)
  replace Rm := hid (tt.samp Rm.out)
  replace Rp := hid (tt.samp Rp.out)
  replace BQ := hid (BQ.out.ts tt)
  replace Rc := hid (tt.samp Rc.out)
  clear tt oo
  have C := oDrop X.out ta few9
  rw [decide_eq_false k9h] at C
  replace C := hid C
  go_wp2_with fail
  refine C.out.mono ?_
  rintro e W30 ⟨rfl, m30, oo, tt⟩
  clear C
  replace X := hid oo
  replace BX := hid (BX.out.ts tt)
  replace LR := hid (LR.out.ts tt)
  replace Rl := hid (tt.samp Rl.out)
  replace Rm := hid (tt.samp Rm.out)
  replace Rp := hid (tt.samp Rp.out)
  replace BQ := hid (BQ.out.ts tt)
  replace Rc := hid (tt.samp Rc.out)
  clear tt oo
  go_wp2
  go_ret
  exact ⟨rfl, X.out.bel⟩
open Go.RowKit Go.ChangeShapes Go.WideShapes Go.ChangeAt Go.Deep
theorem laidOut : laidOutB Tryz.prog = true := by kernel_rfl
theorem cells_int9 : Tryz.prog.cellsOf 3 = 1 := by kernel_rfl
theorem cells_str9 : Tryz.prog.cellsOf 9 = 1 := by kernel_rfl
theorem cells_sl9 : Tryz.prog.cellsOf 28 = 1 := by kernel_rfl
theorem cells_lb9 : Tryz.prog.cellsOf 100 = 2 := by kernel_rfl
theorem cells_sm12 : Tryz.prog.cellsOf 27 = 2 := by kernel_rfl
theorem cells_ru12 : Tryz.prog.cellsOf 32 = 5 := by kernel_rfl
theorem cells_on12 : Tryz.prog.cellsOf 30 = 4 := by kernel_rfl
theorem cells_op12 : Tryz.prog.cellsOf 34 = 14 := by kernel_rfl
theorem trod_lb {H : Type} {enc : TypeId × Value → H} {W : World} {fuel : Nat} {cs : List Value} {x : DataW H × List MemPlace}
    (hf : DataW.trod enc Tryz.prog W 0 (fun _ => true) true fuel 100 cs = some x) : ∃ q : Lb, cs = [.string (bs q.1), .string (bs q.2)] := by
  obtain ⟨xs, k, hk, hxy, hl, hxl, hfl⟩ := DataW.trod_struct Tryz.underlying100 hf
  rw [cells_lb9] at hl
  match xs, hxl, cs, hl with
  | [y0, y1], _, [v0, v1], _ =>
    have g0 := hfl 0 _ rfl
    have g1 := hfl 1 _ rfl
    simp [cells_str9] at g0 g1
    obtain ⟨s0, e0, _⟩ := DataW.trod_string Tryz.underlying9 g0
    obtain ⟨s1, e1, _⟩ := DataW.trod_string Tryz.underlying9 g1
    simp at e0 e1
    subst e0 e1
    exact ⟨(tx s0, tx s1), by rw [bs_tx, bs_tx]⟩
theorem trod_lbs {H : Type} {enc : TypeId × Value → H} {W : World} {fuel : Nat} {cs : List Value} {x : DataW H × List MemPlace}
    (hf : DataW.trod enc Tryz.prog W 0 (fun _ => true) true fuel 28 cs = some x) : ∃ a n c l, cs = [.slice a n c] ∧ LbAt W a n c l := by
  rcases open_slice Tryz.underlying28 hf with ⟨hcs, _⟩ | ⟨x, len, c, m, n, D, Pl, hcs, hb, hl, hm, hmm, _, hx⟩
  · exact ⟨none, 0, 0, [], hcs, LbAt.nil _ _ _⟩
  · simp only [if_true] at hmm
    have each : ∀ i, i < len → ∃ q : Lb, W.cell? (x.add (i * 2)) = some (.string (bs q.1)) ∧ W.cell? (x.add (i * 2 + 1)) = some (.string (bs q.2)) := by
      intro i hi
      obtain ⟨cs', h1, h2⟩ := hx i (by omega)
      rw [cells_lb9] at h1
      obtain ⟨_, hlen, hcell⟩ := World.cells?_some h1
      obtain ⟨q, rfl⟩ := trod_lb h2
      have c0 := hcell 0 (by omega)
      have c1 := hcell 1 (by omega)
      rw [add_add] at c0 c1
      simp at c0 c1
      exact ⟨q, c0, c1⟩
    obtain ⟨q, hq⟩ := choose_lt each
    refine ⟨some x, len, c, (List.range len).map q, hcs, by simp, hl, by unfold maxLen at hm; omega, ?_⟩
    by_cases h0 : len = 0
    · exact .inl h0
    · right
      obtain ⟨b, off, spot⟩ := x
      have hs : spot = none := by
        have := (hq 0 (by omega)).1
        simpa [Addr.add] using World.cell?_spot this
      subst hs
      have hbl : b < W.heap.size := by
        have := World.block_lt_of_cell? W _ (hq 0 (by omega)).1
        simpa [Addr.add] using this
      refine ⟨b, off, rfl, hbl, fun i hi => ?_⟩
      obtain ⟨c0, c1⟩ := hq i hi
      have ha : ∀ k, (⟨b, off, none⟩ : Addr).add k = ⟨b, off + k, none⟩ := by
        intro k; unfold Addr.add; split <;> simp_all
      rw [ha] at c0 c1
      have e : ((List.range len).map q).getD i ([], []) = q i := by
        rw [List.getD_eq_getElem?_getD, List.getElem?_map, List.getElem?_range hi]; rfl
      unfold lN lV
      rw [e]
      exact ⟨c0, by rw [Nat.add_assoc]; exact c1⟩
theorem trod_ru {H : Type} {enc : TypeId × Value → H} {W : World} {fuel : Nat} {cs : List Value} {x : DataW H × List MemPlace}
    (hf : DataW.trod enc Tryz.prog W 0 (fun _ => true) true fuel 32 cs = some x) : ∃ q : Ru, cs = [.string (bs q.src), .string (bs q.dst), .int .i64 q.kind, .int .i64 q.size, .int .i64 q.align] := by
  obtain ⟨xs, k, hk, hxy, hl, hxl, hfl⟩ := DataW.trod_struct Tryz.underlying32 hf
  rw [cells_ru12] at hl
  match xs, hxl, cs, hl with
  | [y0, y1, y2, y3, y4], _, [v0, v1, v2, v3, v4], _ =>
    have g0 := hfl 0 _ rfl
    have g1 := hfl 1 _ rfl
    have g2 := hfl 2 _ rfl
    have g3 := hfl 3 _ rfl
    have g4 := hfl 4 _ rfl
    simp [cells_str9, cells_int9] at g0 g1 g2 g3 g4
    obtain ⟨s0, e0, _⟩ := DataW.trod_string Tryz.underlying9 g0
    obtain ⟨s1, e1, _⟩ := DataW.trod_string Tryz.underlying9 g1
    obtain ⟨n2, e2, _, w2⟩ := DataW.trod_int Tryz.underlying3 g2
    obtain ⟨n3, e3, _, w3⟩ := DataW.trod_int Tryz.underlying3 g3
    obtain ⟨n4, e4, _, w4⟩ := DataW.trod_int Tryz.underlying3 g4
    simp at e0 e1 e2 e3 e4
    subst e0 e1 e2 e3 e4
    exact ⟨⟨tx s0, tx s1, n2, n3, n4⟩, by simp [bs_tx]⟩
theorem trod_sm12 {H : Type} {enc : TypeId × Value → H} {W : World} {fuel : Nat} {cs : List Value} {x : DataW H × List MemPlace}
    (hf : DataW.trod enc Tryz.prog W 0 (fun _ => true) true fuel 27 cs = some x) : ∃ u v : Int, cs = [.int .i64 u, .int .i64 v] ∧ in64 u ∧ in64 v := by
  obtain ⟨xs, k, hk, hxy, hl, hxl, hfl⟩ := DataW.trod_struct Tryz.underlying27 hf
  rw [cells_sm12] at hl
  match xs, hxl, cs, hl with
  | [y0, y1], _, [v0, v1], _ =>
    have g0 := hfl 0 _ rfl
    have g1 := hfl 1 _ rfl
    simp [cells_int9] at g0 g1
    obtain ⟨n0, e0, _, w0⟩ := DataW.trod_int Tryz.underlying3 g0
    obtain ⟨n1, e1, _, w1⟩ := DataW.trod_int Tryz.underlying3 g1
    simp at e0 e1
    subst e0 e1
    exact ⟨n0, n1, rfl, bounds_i64 w0, bounds_i64 w1⟩
theorem trod_on12 {H : Type} {enc : TypeId × Value → H} {W : World} {fuel : Nat} {cs : List Value} {x : DataW H × List MemPlace}
    (hf : DataW.trod enc Tryz.prog W 0 (fun _ => true) true fuel 30 cs = some x) : ∃ (sz ret pol : Int) (a : Option Addr) (n c : Nat) (l : List Lb), cs = [.int .i64 sz, .int .i64 ret, .int .i64 pol, .slice a n c] ∧ LbAt W a n c l := by
  obtain ⟨xs, k, hk, hxy, hl, hxl, hfl⟩ := DataW.trod_struct Tryz.underlying30 hf
  rw [cells_on12] at hl
  match xs, hxl, cs, hl with
  | [y0, y1, y2, y3], _, [v0, v1, v2, v3], _ =>
    have g0 := hfl 0 _ rfl
    have g1 := hfl 1 _ rfl
    have g2 := hfl 2 _ rfl
    have g3 := hfl 3 _ rfl
    simp [cells_int9, cells_sl9] at g0 g1 g2 g3
    obtain ⟨n0, e0, _, w0⟩ := DataW.trod_int Tryz.underlying3 g0
    obtain ⟨n1, e1, _, w1⟩ := DataW.trod_int Tryz.underlying3 g1
    obtain ⟨n2, e2, _, w2⟩ := DataW.trod_int Tryz.underlying3 g2
    obtain ⟨a, n, c, l, e3, hl3⟩ := trod_lbs g3
    simp at e0 e1 e2 e3
    subst e0 e1 e2 e3
    exact ⟨n0, n1, n2, a, n, c, l, rfl, hl3⟩
structure Op12 where
  k : Int
  key : Tx
  T : Int
  V : Int
  p : Int
  sz : Int
  ret : Int
  pol : Int
  l : List Lb
  r : Ru
instance : Inhabited Op12 := ⟨⟨0, [], 0, 0, 0, 0, 0, 0, [], zeroU⟩⟩
def opC (q : Op12) (a : Option Addr) (n c : Nat) : List Value := [.int .i64 q.k, .string (bs q.key), .int .i64 q.T, .int .i64 q.V, .int .i64 q.p, .int .i64 q.sz, .int .i64 q.ret, .int .i64 q.pol, .slice a n c, .string (bs q.r.src), .string (bs q.r.dst), .int .i64 q.r.kind, .int .i64 q.r.size, .int .i64 q.r.align]
def O14 (w : World) (b o : Nat) (q : Op12) (a : Option Addr) (n c : Nat) : Prop := (∀ j v, (opC q a n c)[j]? = some v → w.cell? ⟨b, o + j, none⟩ = some v) ∧ LbAt w a n c q.l ∧ in64 q.T ∧ in64 q.V
def opA (z : List Op12) (i : Nat) : Op12 := z.getD i default
def Ops12 (w : World) (a : Option Addr) (len cap : Nat) (z : List Op12) : Prop :=
  z.length = len ∧ len ≤ 9223372036854775807 ∧
  (len = 0 ∨ ∃ b off, a = some ⟨b, off, none⟩ ∧ b < w.heap.size ∧ ∀ i, i < len → ∃ a' n' c', O14 w b (off + i * 14) (opA z i) a' n' c')
theorem O14.keep {w w' : World} {b o : Nat} {q : Op12} {a : Option Addr} {n c : Nat} (h : O14 w b o q a n c) (hb : b < w.heap.size) (k : Below w.heap.size w w') : O14 w' b o q a n c :=
  ⟨fun j v e => by rw [k.cell hb]; exact h.1 j v e, h.2.1.keep k, h.2.2⟩
theorem Ops12.keep {w w' : World} {a : Option Addr} {n c : Nat} {z : List Op12} (h : Ops12 w a n c z) (k : Below w.heap.size w w') : Ops12 w' a n c z := by
  obtain ⟨h1, h3, h5⟩ := h
  refine ⟨h1, h3, ?_⟩
  rcases h5 with h0 | ⟨b, off, rfl, hlt, hc⟩
  · exact .inl h0
  · exact .inr ⟨b, off, rfl, Nat.lt_of_lt_of_le hlt k.size, fun i hi => by
      obtain ⟨a', n', c', e⟩ := hc i hi
      exact ⟨a', n', c', e.keep hlt k⟩⟩
theorem Ops12.at_ {w : World} {a : Option Addr} {n c : Nat} {z : List Op12} (h : Ops12 w a n c z) (i : Nat) (hi : i < n) :
    ∃ b off a' n' c', a = some ⟨b, off, none⟩ ∧ b < w.heap.size ∧ O14 w b (off + i * 14) (opA z i) a' n' c' := by
  obtain ⟨h1, h3, h5⟩ := h
  rcases h5 with h0 | ⟨b, off, rfl, hlt, hc⟩
  · omega
  · obtain ⟨a', n', c', e⟩ := hc i hi
    exact ⟨b, off, a', n', c', rfl, hlt, e⟩
theorem trod_op12 {H : Type} {enc : TypeId × Value → H} {W : World} {fuel : Nat} {cs : List Value} {x : DataW H × List MemPlace}
    (hf : DataW.trod enc Tryz.prog W 0 (fun _ => true) true fuel 34 cs = some x) : ∃ (q : Op12) (a : Option Addr) (n c : Nat), cs = opC q a n c ∧ LbAt W a n c q.l ∧ in64 q.T ∧ in64 q.V := by
  obtain ⟨xs, k, hk, hxy, hl, hxl, hfl⟩ := DataW.trod_struct Tryz.underlying34 hf
  rw [cells_op12] at hl
  match xs, hxl, cs, hl with
  | [y0, y1, y2, y3, y4, y5], _, [v0, v1, v2, v3, v4, v5, v6, v7, v8, v9, v10, v11, v12, v13], _ =>
    have g0 := hfl 0 _ rfl
    have g1 := hfl 1 _ rfl
    have g2 := hfl 2 _ rfl
    have g3 := hfl 3 _ rfl
    have g4 := hfl 4 _ rfl
    have g5 := hfl 5 _ rfl
    simp [cells_int9, cells_str9, cells_sm12, cells_on12, cells_ru12] at g0 g1 g2 g3 g4 g5
    obtain ⟨n0, e0, _, w0⟩ := DataW.trod_int Tryz.underlying3 g0
    obtain ⟨s1, e1, _⟩ := DataW.trod_string Tryz.underlying9 g1
    obtain ⟨T, V, e2, i2, i3⟩ := trod_sm12 g2
    obtain ⟨n3, e3, _, w3⟩ := DataW.trod_int Tryz.underlying3 g3
    obtain ⟨sz, ret, pol, a, n, c, l, e4, hl4⟩ := trod_on12 g4
    obtain ⟨r, e5⟩ := trod_ru g5
    simp at e0 e1 e2 e3 e4 e5
    obtain ⟨e20, e21⟩ := e2
    obtain ⟨e40, e41, e42, e43⟩ := e4
    obtain ⟨e50, e51, e52, e53, e54⟩ := e5
    subst e0 e1 e20 e21 e3 e40 e41 e42 e43 e50 e51 e52 e53 e54
    exact ⟨⟨n0, tx s1, T, V, n3, sz, ret, pol, l, r⟩, a, n, c, by simp [opC, bs_tx], hl4, i2, i3⟩
theorem open_ops12 {H : Type} {enc : TypeId × Value → H} {W : World} {a : Option Addr} {len cap : Nat} {d : DataW H} {p : List MemPlace}
    (h : DataW.Trod enc Tryz.prog W 0 (fun _ => true) true 22 (.slice a len cap) d p) : ∃ z, Ops12 W a len cap z := by
  obtain ⟨fuel, hf⟩ := h
  rcases open_slice Tryz.underlying22 hf with ⟨hcs, _⟩ | ⟨x, l, c, m, n, D, Pl, hcs, hb, hl, hm, hmm, _, hx⟩
  · simp [Value.cells] at hcs
    obtain ⟨rfl, rfl, rfl⟩ := hcs
    exact ⟨[], rfl, by omega, .inl rfl⟩
  · simp [Value.cells] at hcs
    obtain ⟨rfl, rfl, rfl⟩ := hcs
    simp only [if_true] at hmm
    have each : ∀ i, i < len → ∃ q : Op12, ∃ a' n' c', (∀ j v, (opC q a' n' c')[j]? = some v → W.cell? (x.add (i * 14 + j)) = some v) ∧ LbAt W a' n' c' q.l ∧ in64 q.T ∧ in64 q.V := by
      intro i hi
      obtain ⟨cs', h1, h2⟩ := hx i (by omega)
      rw [cells_op12] at h1
      obtain ⟨_, hlen, hcell⟩ := World.cells?_some h1
      obtain ⟨q, a', n', c', rfl, hl', i2, i3⟩ := trod_op12 h2
      refine ⟨q, a', n', c', fun j v hj => ?_, hl', i2, i3⟩
      have hj' : j < 14 := by
        have := (List.getElem?_eq_some_iff.1 hj).1
        simpa [opC] using this
      have c0 := hcell j hj'
      rw [add_add] at c0
      rw [c0, ← hj]
    obtain ⟨q, hq⟩ := choose_lt each
    refine ⟨(List.range len).map q, by simp, by unfold maxLen at hm; omega, ?_⟩
    by_cases h0 : len = 0
    · exact .inl h0
    · right
      obtain ⟨b, off, spot⟩ := x
      have hs : spot = none := by
        obtain ⟨_, _, _, this, _⟩ := hq 0 (by omega)
        have := this 0 _ rfl
        simpa [Addr.add] using World.cell?_spot this
      subst hs
      have hbl : b < W.heap.size := by
        obtain ⟨_, _, _, this, _⟩ := hq 0 (by omega)
        have := World.block_lt_of_cell? W _ (this 0 _ rfl)
        simpa [Addr.add] using this
      refine ⟨b, off, rfl, hbl, fun i hi => ?_⟩
      obtain ⟨a', n', c', h1, h2⟩ := hq i hi
      have ha : ∀ k, (⟨b, off, none⟩ : Addr).add k = ⟨b, off + k, none⟩ := by
        intro k; unfold Addr.add; split <;> simp_all
      have e : opA ((List.range len).map q) i = q i := by
        unfold opA
        rw [List.getD_eq_getElem?_getD, List.getElem?_map, List.getElem?_range hi]; rfl
      rw [e]
      exact ⟨a', n', c', fun j v hj => by have := h1 j v hj; rw [ha, ← Nat.add_assoc] at this; exact this, h2⟩
end Go.Proofs.YtmifpfojhlmbkaaGreat
