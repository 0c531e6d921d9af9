/-
  The fixed calls that each statement of layer 4 ends with come out as they must: 'known' returns true, and writes nothing that was there.
-/
import Derived.Test.YtjhnajenkoepdaaCSplit
import Derived.Test.YtjhnajenkoepdaaCPut
import Derived.Test.YtjhnajenkoepdaaRSame
namespace Go.Proofs.Ytjhnajenkoepdaa
open Go.RowKit
set_option linter.unusedVariables false
set_option linter.unusedSimpArgs false

/-! The contracts over values that are known. -/
theorem put_at (b : Nat) (sz : Int) (z : List (Int × Int)) (T V p : Int) (err : Int) (l : List (Int × Int)) (w : World) (hP : putL sz z T V p = (err, l)) (h : PCk w b sz z) (hs : 1 ≤ sz) (hs2 : sz ≤ 4096) (hr : Rising z) (hn : z.length < 1048576) (hT : in64 T) (hV : in64 V) :
    Calls Try.prog 17 #[.pointer (some ⟨b, 0, none⟩), .agg #[.int .i64 T, .int .i64 V], .int .i64 p] w (ErrP 53 b sz err l w) := by
  have := put_ok4 b sz z T V p w h hs hs2 hr hn hT hV
  rw [hP] at this
  exact this
theorem get_at (b : Nat) (sz : Int) (z : List (Int × Int)) (t x er : Int) (w : World) (hG : getL z t = (x, er)) (h : PCk w b sz z) (hs : 1 ≤ sz) (hr : Rising z) (hn : z.length ≤ 1048576) :
    Calls Try.prog 19 #[.pointer (some ⟨b, 0, none⟩), .int .i64 t] w fun e w' => e = .returned (.tuple #[.int .i64 x, .int .i64 er]) ∧ Below w.heap.size w w' := by
  have := get_ok4 b sz z t w h hs hr hn
  rw [hG] at this
  exact this
theorem drop_at (b : Nat) (sz : Int) (z : List (Int × Int)) (x y : Int) (n : Int) (l : List (Int × Int)) (w : World) (hN : (dropN z x y : Int) = n) (hL : dropL z x y = l) (h : PCk w b sz z) (hs : 1 ≤ sz) (hr : Rising z) (hn : z.length ≤ 1048576) :
    Calls Try.prog 14 #[.pointer (some ⟨b, 0, none⟩), .int .i64 x, .int .i64 y] w (ErrP 53 b sz n l w) := by
  have := drop_ok b sz z x y w h hs hr hn
  rw [hN, hL] at this
  exact this
theorem end_at {z : List (Int × Int)} {i : Nat} {T V : Int} {r : Bool} {f : FuncId} {args : Array Value} {w : World} (hT : tOf z i = T) (hV : vOf z i = V) (hr : decide (0 < z.length) = r) (h : Calls Try.prog f args w (EndP z i w)) :
    Calls Try.prog f args w fun e w' => e = .returned (.tuple #[.agg #[.int .i64 T, .int .i64 V], .bool r]) ∧ Below w.heap.size w w' := by
  subst hT hV hr; exact h
theorem cnew_at (size : Int) (w : World) (h1 : 128 ≤ size) (h2 : size ≤ 4096) : Calls Try.prog 8 #[.int .i64 size] w fun e w' =>
    e = .returned (.tuple #[.pointer (some ⟨w.heap.size, 0, none⟩), .int .i64 0]) ∧ PCk w' w.heap.size size [] ∧ Below w.heap.size w w' ∧ w'.heap.size = w.heap.size + 1 := by
  refine (cnew_any size w).mono ?_
  rintro e w' (⟨h, _⟩ | ⟨_, _, h⟩)
  · exact absurd ⟨h1, h2⟩ h
  · exact h
theorem cnew_bad (size : Int) (w : World) (h : ¬ (128 ≤ size ∧ size ≤ 4096)) : Calls Try.prog 8 #[.int .i64 size] w fun e w' => e = .returned (.tuple #[.pointer none, .int .i64 1]) ∧ w = w' := by
  refine (cnew_any size w).mono ?_
  rintro e w' (⟨_, h'⟩ | ⟨a, b, _⟩)
  · exact h'
  · exact absurd ⟨a, b⟩ h

theorem took_ok (sz : Int) (z l : List (Int × Int)) (h : 136 * (l.length : Int) ≤ 8 * sz) : tookE sz l = 0 ∧ tookL sz z l = l := by
  have := bitsZ_le l
  unfold tookE tookL
  rw [if_neg (by omega), if_neg (by omega)]
  exact ⟨rfl, rfl⟩
theorem putL_took (sz : Int) (z : List (Int × Int)) (t v p x : Int) (l : List (Int × Int)) (h0 : ¬ (t < 0 ∨ 1099511627776 ≤ t)) (hv : newV z t v p = (x, 0)) (hi : insL z t x = l) (h : 136 * (l.length : Int) ≤ 8 * sz) : putL sz z t v p = (0, l) := by
  have := bitsZ_le l
  unfold putL
  rw [if_neg h0, hv, if_neg (by simp), hi, if_neg (by omega)]
theorem putL_err (sz : Int) (z : List (Int × Int)) (t v p x er : Int) (h0 : ¬ (t < 0 ∨ 1099511627776 ≤ t)) (hv : newV z t v p = (x, er)) (he : er ≠ 0) : putL sz z t v p = (er, z) := by
  unfold putL
  rw [if_neg h0, hv, if_pos he]

def z1 : List (Int × Int) := [(20, 7)]
def z2 : List (Int × Int) := [(10, 5), (20, 7)]
def z3 : List (Int × Int) := [(10, 5), (20, 8)]
theorem k1 : putL 128 [] 20 7 1 = (0, z1) := putL_took 128 [] 20 7 1 7 z1 (by omega) (by decide) (by decide) (by decide)
theorem k2 : putL 128 z1 10 5 1 = (0, z2) := putL_took 128 z1 10 5 1 5 z2 (by omega) (by decide) (by decide) (by decide)
theorem k3 : putL 128 z2 20 8 1 = (8, z2) := putL_err 128 z2 20 8 1 0 8 (by omega) (by decide) (by decide)
theorem k4 : putL 128 z2 20 8 3 = (0, z3) := putL_took 128 z2 20 8 3 8 z3 (by omega) (by decide) (by decide) (by decide)
theorem k5 : getL z3 20 = (8, 0) := by decide
theorem k6 : getL z3 15 = (0, 5) := by decide
theorem rising_of {z : List (Int × Int)} (h : ∀ i, i < z.length → ∀ j, j < z.length → i < j → tOf z i < tOf z j) : Rising z := fun i j hij hj => h i (by omega) j hj hij
theorem r1 : Rising z1 := rising_of (by decide)
theorem r2 : Rising z2 := rising_of (by decide)
theorem r3 : Rising z3 := rising_of (by decide)
theorem h3 : halfK z3 = 1 := rfl
theorem j3 : joinE 128 [(10, 5)] [(20, 8)] = 0 := by
  unfold joinE
  rw [if_neg (by decide)]
  exact (took_ok 128 [] _ (by decide)).1
theorem d3 : (dropN z3 0 15 : Int) = 1 := by decide
theorem d4 : dropL z3 0 15 = [(20, 8)] := by decide
theorem u3 : usedL [(20, 8)] = 16 := by
  unfold usedL bitsZ
  rw [show [((20 : Int), (8 : Int))].length = 1 from rfl, encTo_len_one]

theorem all3 : All64 z3 := by
  intro x hx
  simp [z3] at hx
  rcases hx with rfl | rfl <;> exact ⟨⟨by decide, by decide⟩, ⟨by decide, by decide⟩⟩
theorem bel_two {B b o : Nat} {w w1 w2 : World} (h : Below B w w1) (hB : B ≤ w1.heap.size) (hb : B ≤ b) (ho : B ≤ o) (g : TwoOnly b o w1 w2) : Below B w w2 :=
  ⟨g.1.trans h.os, g.2.1.trans h.tape, g.2.2.1.trans h.output, Nat.le_trans h.size g.2.2.2.1, fun i hi => (g.2.2.2.2 i (Nat.lt_of_lt_of_le hi hB) (by omega) (by omega)).trans (h.block i hi)⟩
theorem Lst.keep2 {w w' : World} {a : Option Addr} {len cap : Nat} {z : List (Int × Int)} {b o : Nat} (h : Lst w a len cap z) (g : TwoOnly b o w w') (hb : NoSamp w b) (ho : NoSamp w o) : Lst w' a len cap z := by
  obtain ⟨⟨a1, a2, a3, a4, a5⟩, h2⟩ := h
  rcases h2 with h0 | ⟨x, cs, f, rfl, hx⟩
  · exact ⟨⟨a1, a2, a3, a4, .inl h0⟩, .inl h0⟩
  · have e : w'.heap[x.block]? = w.heap[x.block]? := g.2.2.2.2 _ (heap_lt hx) (fun e => hb cs f (e ▸ hx)) (fun e => ho cs f (e ▸ hx))
    refine ⟨⟨a1, a2, a3, a4, ?_⟩, .inr ⟨x, cs, f, rfl, by rw [e]; exact hx⟩⟩
    rcases a5 with h0 | ⟨b', off, hxe, hlt, hc⟩
    · exact .inl h0
    · right
      refine ⟨b', off, hxe, Nat.lt_of_lt_of_le hlt g.2.2.2.1, fun i hi => ?_⟩
      cases hxe
      have hcell : ∀ k, w'.cell? ⟨b', k, none⟩ = w.cell? ⟨b', k, none⟩ := by intro k; simp [World.cell?, e]
      rw [hcell, hcell]; exact hc i hi

set_option maxRecDepth 100000 in
set_option maxHeartbeats 4000000 in
theorem cknown_any (w : World) : Calls Try.prog 16 #[] w fun e w' => e = .returned (.bool true) ∧ Below w.heap.size w w' := by
  go_enter Try.func16, Try.ntmps16
  go_wp2_with fail
  refine (cnew_at 128 w (by omega) (by omega)).mono ?_
  rintro e W0 ⟨rfl, p0, B0, s0⟩
  have s0' : w.heap.size < W0.heap.size := by omega
  clear s0
  have hbw : w.heap.size ≤ w.heap.size := Nat.le_refl _
  generalize hb : w.heap.size = b at p0 s0' ⊢
  have HBW := Lib.hid hb
  rw [hb] at B0
  clear hb hbw
  go_wp2_with fail
  refine (cnew_bad 127 W0 (by omega)).mono ?_
  rintro e w' ⟨rfl, rfl⟩
  go_wp2_with fail
  refine (put_at b 128 [] 20 7 1 0 z1 W0 k1 p0 (by omega) (by omega) rising_nil (by decide) ⟨by omega, by omega⟩ ⟨by omega, by omega⟩).mono ?_
  rintro e W1 ⟨rfl, p1, g⟩
  have B1 := bel_gb B0 (Nat.le_of_lt s0') (Nat.le_refl b) g
  have s1' := Nat.lt_of_lt_of_le s0' g.size
  clear g p0 B0 s0'
  go_wp2_with fail
  refine (put_at b 128 z1 10 5 1 0 z2 W1 k2 p1 (by omega) (by omega) r1 (by decide) ⟨by omega, by omega⟩ ⟨by omega, by omega⟩).mono ?_
  rintro e W2 ⟨rfl, p2, g⟩
  have B2 := bel_gb B1 (Nat.le_of_lt s1') (Nat.le_refl b) g
  have s2' := Nat.lt_of_lt_of_le s1' g.size
  clear g p1 B1 s1'
  go_wp2_with fail
  refine (put_at b 128 z2 20 8 1 8 z2 W2 k3 p2 (by omega) (by omega) r2 (by decide) ⟨by omega, by omega⟩ ⟨by omega, by omega⟩).mono ?_
  rintro e W3 ⟨rfl, p3, g⟩
  have B3 := bel_gb B2 (Nat.le_of_lt s2') (Nat.le_refl b) g
  have s3' := Nat.lt_of_lt_of_le s2' g.size
  clear g p2 B2 s2'
  go_wp2_with fail
  refine (put_at b 128 z2 20 8 3 0 z3 W3 k4 p3 (by omega) (by omega) r2 (by decide) ⟨by omega, by omega⟩ ⟨by omega, by omega⟩).mono ?_
  rintro e W4 ⟨rfl, p4, g⟩
  have B4 := bel_gb B3 (Nat.le_of_lt s3') (Nat.le_refl b) g
  have s4' := Nat.lt_of_lt_of_le s3' g.size
  clear g p3 B3 s3'
  go_wp2_with fail
  refine (get_at b 128 z3 20 8 0 W4 k5 p4 (by omega) r3 (by decide)).mono ?_
  rintro e W5 ⟨rfl, g⟩
  have p5 : PCk W5 b 128 z3 := CAt.keepB p4 g
  have B5 := bel_gbn B4 (Nat.le_of_lt s4') (gb_below g)
  have s5' := Nat.lt_of_lt_of_le s4' g.size
  clear g p4 B4 s4'
  go_wp2_with fail
  refine (get_at b 128 z3 15 0 5 W5 k6 p5 (by omega) r3 (by decide)).mono ?_
  rintro e W6 ⟨rfl, g⟩
  have p6 : PCk W6 b 128 z3 := CAt.keepB p5 g
  have B6 := bel_gbn B5 (Nat.le_of_lt s5') (gb_below g)
  have s6' := Nat.lt_of_lt_of_le s5' g.size
  clear g p5 B5 s5'
  go_wp2_with fail
  refine (end_at (T := 10) (V := 5) (r := true) (by decide) (by decide) (by decide) (first_ok b 128 z3 W6 p6 (by omega) (by decide))).mono ?_
  rintro e W7 ⟨rfl, g⟩
  have p7 : PCk W7 b 128 z3 := CAt.keepB p6 g
  have B7 := bel_gbn B6 (Nat.le_of_lt s6') (gb_below g)
  have s7' := Nat.lt_of_lt_of_le s6' g.size
  clear g p6 B6 s6'
  have HX0 := Lib.hid (heap_new W7 (.cells #[.int .i64 10, .int .i64 5] 31))
  have p8 := CAt.keepN p7 (World.grownBy_alloc W7 (.cells #[.int .i64 10, .int .i64 5] 31) none)
  have B8 := B7.alloc (Nat.le_of_lt s7') (.cells #[.int .i64 10, .int .i64 5] 31)
  have s8' : W7.heap.size < (W7.alloc (.cells #[.int .i64 10, .int .i64 5] 31)).heap.size := by simp
  clear p7 B7
  go_wp2_with fail
  generalize W7.alloc (.cells #[.int .i64 10, .int .i64 5] 31) = W8 at *
  generalize W7.heap.size = kx at *
  refine (all_ok b 128 z3 W8 p8 (by omega) (by decide)).mono ?_
  rintro e W9 ⟨a9, c9, rfl, L9, g⟩
  have HX9 := Lib.hid ((g.block kx s8').trans HX0.out)
  have p9 : PCk W9 b 128 z3 := CAt.keepB p8 g
  have B9 := bel_gbn B8 (by omega) (gb_below g)
  have s9' := Nat.lt_of_lt_of_le s8' g.size
  clear g p8 B8 s8' HX0
  go_wp2_with fail
  refine (split_ok b 128 z3 W9 p9 (by omega) (by decide) (by decide)).mono ?_
  rintro e W10 ⟨o, rfl, ho, pb, po, g⟩
  rw [h3] at pb po
  replace pb : PCk W10 b 128 [(10, 5)] := pb
  replace po : PCk W10 o 128 [(20, 8)] := po
  have HX10 := Lib.hid ((g.block kx s9' (by simp; omega)).trans HX9.out)
  have L10 := L9.keep g (by intro r e; cases e; exact CAt.no p9 (by decide))
  have B10 := bel_gb B9 (by omega) (Nat.le_refl b) g
  have s10' := Nat.lt_of_lt_of_le s9' g.size
  have so : o < W10.heap.size := CAt.lt po
  clear g p9 B9 HX9 L9
  have hko : kx < o := by omega
  clear ho s9'
  go_wp2_with fail
  refine (end_at (T := 20) (V := 8) (r := true) (by decide) (by decide) (by decide) (last_ok o 128 [(20, 8)] W10 po (by omega) (by decide))).mono ?_
  rintro e W11 ⟨rfl, g⟩
  have HX11 := Lib.hid ((g.block kx s10').trans HX10.out)
  have pb11 : PCk W11 b 128 [(10, 5)] := CAt.keepB pb g
  have po11 : PCk W11 o 128 [(20, 8)] := CAt.keepB po g
  have L11 := L10.keepB g
  have B11 := bel_gbn B10 (by omega) (gb_below g)
  have s11' := Nat.lt_of_lt_of_le s10' g.size
  clear g pb po B10 s10' so L10 HX10
  have HY0 := Lib.hid (heap_new W11 (.cells #[.int .i64 20, .int .i64 8] 31))
  have ga := World.grownBy_alloc W11 (.cells #[.int .i64 20, .int .i64 8] 31) none
  have HX12 := Lib.hid (heap_old (o := .cells #[.int .i64 20, .int .i64 8] 31) HX11.out)
  have pb12 := CAt.keepN pb11 ga
  have po12 := CAt.keepN po11 ga
  have L12 := L11.keepN ga
  have B12 := bel_gbn B11 (by omega) ga
  have s12' : W11.heap.size < (W11.alloc (.cells #[.int .i64 20, .int .i64 8] 31)).heap.size := by simp
  have hoy : o < W11.heap.size := CAt.lt po11
  clear ga pb11 po11 L11 B11 HX11
  go_wp2_with fail
  generalize W11.alloc (.cells #[.int .i64 20, .int .i64 8] 31) = W12 at *
  generalize W11.heap.size = ky at *
  refine (join_ok b o 128 128 [(10, 5)] [(20, 8)] W12 pb12 po12 (by omega) (by omega) (by omega) (by omega) (by decide)).mono ?_
  rintro e W13 ⟨rfl, pb13, po13, g⟩
  unfold joinL at pb13
  unfold joinR at po13
  rw [j3] at pb13 po13 ⊢
  replace pb13 : PCk W13 b 128 z3 := pb13
  replace po13 : PCk W13 o 128 [] := po13
  have HX13 := Lib.hid ((g.2.2.2.2 kx (by omega) (by omega) (by omega)).trans HX12.out)
  have HY13 := Lib.hid ((g.2.2.2.2 ky (by omega) (by omega) (by omega)).trans HY0.out)
  have L13 := L12.keep2 g (CAt.no pb12 (by decide)) (CAt.no po12 (by decide))
  have B13 := bel_two B12 (by omega) (Nat.le_refl b) (by omega) g
  have s13' := Nat.lt_of_lt_of_le s12' g.2.2.2.1
  clear g pb12 po12 L12 B12 HX12 HY0 s12'
  go_wp2_with fail
  refine (drop_at b 128 z3 0 15 1 [(20, 8)] W13 d3 d4 pb13 (by omega) r3 (by decide)).mono ?_
  rintro e W14 ⟨rfl, pb14, g⟩
  have HX14 := Lib.hid ((g.block kx (by omega) (by simp; omega)).trans HX13.out)
  have HY14 := Lib.hid ((g.block ky (by omega) (by simp; omega)).trans HY13.out)
  have po14 : PCk W14 o 128 [] := CAt.keep po13 g (by omega) (CAt.no pb13 (by decide))
  have L14 := L13.keep g (by intro r e; cases e; exact CAt.no pb13 (by decide))
  have B14 := bel_gb B13 (by omega) (Nat.le_refl b) g
  have s14' := Nat.lt_of_lt_of_le s13' g.size
  clear g pb13 po13 L13 B13 HX13 HY13 s13'
  have x0 : W14.cell? ⟨kx, 0, none⟩ = some (.int .i64 10) := by rw [cell_of HX14.out]; rfl
  have x1 : W14.cell? ⟨kx, 1, none⟩ = some (.int .i64 5) := by rw [cell_of HX14.out]; rfl
  go_wp2_with fail
  have ga := World.grownBy_alloc W14 (.cells #[.int .i64 10, .int .i64 5, .int .i64 20, .int .i64 8] 31) none
  have HL15 := Lib.hid (lst_whole (z := z3) (n := 2) (w := W14.alloc (.cells #[.int .i64 10, .int .i64 5, .int .i64 20, .int .i64 8] 31)) all3 rfl (by omega) (heap_new W14 (.cells #[.int .i64 10, .int .i64 5, .int .i64 20, .int .i64 8] 31)))
  have L15 := L14.keepN ga
  have B15 := bel_gbn B14 (by omega) ga
  have HY15 := Lib.hid (heap_old (o := .cells #[.int .i64 10, .int .i64 5, .int .i64 20, .int .i64 8] 31) HY14.out)
  have pb15 : PCk (W14.alloc (.cells #[.int .i64 10, .int .i64 5, .int .i64 20, .int .i64 8] 31)) b 128 [(20, 8)] := CAt.keepN pb14 ga
  have po15 : PCk (W14.alloc (.cells #[.int .i64 10, .int .i64 5, .int .i64 20, .int .i64 8] 31)) o 128 [] := CAt.keepN po14 ga
  have s15' := Nat.lt_of_lt_of_le s14' ga.size
  clear ga L14 B14 HX14 HY14 pb14 po14 x0 x1
  generalize W14.alloc (.cells #[.int .i64 10, .int .i64 5, .int .i64 20, .int .i64 8] 31) = W15 at *
  generalize W14.heap.size = kz at *
  refine (same_any a9 _ _ 2 c9 2 z3 z3 W15 L15.1 HL15.out.1).mono ?_
  rintro e W16 ⟨rfl, dr⟩
  rw [decide_eq_true (rfl : z3 = z3)]
  have g := dr.gb none
  have B16 := bel_gbn B15 (by omega) g
  have HY16 := Lib.hid ((g.block ky (by omega) (by simp)).trans HY15.out)
  have pb16 : PCk W16 b 128 [(20, 8)] := CAt.keepN pb15 g
  have po16 : PCk W16 o 128 [] := CAt.keepN po15 g
  clear dr L15 HL15 B15 HY15 pb15 po15
  have y0 : W16.cell? ⟨ky, 0, none⟩ = some (.int .i64 20) := by rw [cell_of HY16.out]; rfl
  have y1 : W16.cell? ⟨ky, 1, none⟩ = some (.int .i64 8) := by rw [cell_of HY16.out]; rfl
  go_wp2_with fail
  refine (len_ok b 128 [(20, 8)] W16 pb16 (by omega)).mono ?_
  rintro e w' ⟨rfl, rfl⟩
  go_wp2_with fail
  refine (len_ok o 128 [] W16 po16 (by omega)).mono ?_
  rintro e w' ⟨rfl, rfl⟩
  go_wp2_with fail
  refine (used_ok b 128 [(20, 8)] W16 pb16 (by omega) (by decide)).mono ?_
  rintro e W17 ⟨rfl, g2⟩
  rw [u3]
  have B17 := bel_gbn B16 (by have := g.size; omega) (gb_below g2)
  have pb17 : PCk W17 b 128 [(20, 8)] := CAt.keepB pb16 g2
  clear g g2 B16 pb16 po16 y0 y1 HY16
  go_wp2_with fail
  refine (size_ok b 128 [(20, 8)] W17 pb17).mono ?_
  rintro e w' ⟨rfl, rfl⟩
  go_wp2
  go_ret
  exact ⟨rfl, by rw [HBW.out]; exact B17⟩

end Go.Proofs.Ytjhnajenkoepdaa
