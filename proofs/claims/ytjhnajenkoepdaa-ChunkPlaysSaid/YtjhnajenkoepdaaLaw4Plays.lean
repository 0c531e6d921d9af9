/-
  The statement 'ChunkPlays' of layer 4 (the stage's theorem): for every size and every calls, whatever is put, dropped, split and joined, in whatever order: what is told, and what samples there are, is as the document says.
  No condition.
-/
import Derived.Test.YtjhnajenkoepdaaCKnown
import Derived.Test.YtjhnajenkoepdaaCOps
import Derived.Test.YtjhnajenkoepdaaCPlay
import Derived.Test.YtjhnajenkoepdaaCSame
import Derived.Test.YtjhnajenkoepdaaCRSplit
import Derived.ShutString
import Derived.ChangeOld
namespace Go.Proofs.Ytjhnajenkoepdaa
namespace chunkPlays
open Go.ChangeShapes Go.WideShapes Go.ChangeAt Go.RowKit
set_option linter.unusedVariables false
set_option linter.unusedSimpArgs false

theorem own : ownKnob Try.prog.godebug = none := by kernel_rfl
theorem laidOut : laidOutB Try.prog = true := by kernel_rfl

theorem rnew_at (size : Int) (w : World) (h1 : 128 ≤ size) (h2 : size ≤ 4096) : Calls Try.prog 9 #[.int .i64 size] w fun e w' =>
    e = .returned (.tuple #[.pointer (some ⟨w.heap.size, 0, none⟩), .int .i64 0]) ∧ RCk w' w.heap.size size [] ∧ Below w.heap.size w w' ∧ w'.heap.size = w.heap.size + 1 := by
  refine (rnew_any size w).mono ?_
  rintro e w' (⟨h, _⟩ | ⟨_, _, h⟩)
  · exact absurd ⟨h1, h2⟩ h
  · exact h
theorem rnew_bad (size : Int) (w : World) (h : ¬ (128 ≤ size ∧ size ≤ 4096)) : Calls Try.prog 9 #[.int .i64 size] w fun e w' => e = .returned (.tuple #[.pointer none, .int .i64 1]) ∧ w = w' := by
  refine (rnew_any size w).mono ?_
  rintro e w' (⟨_, h'⟩ | ⟨a, b, _⟩)
  · exact h'
  · exact absurd ⟨a, b⟩ h

/-- The four chunks: the program's two, and the document's two. -/
def Four (w : World) (B b d q s : Nat) (sz : Int) (x y : List (Int × Int)) : Prop :=
  PCk w b sz x ∧ PCk w d sz y ∧ RCk w q sz x ∧ RCk w s sz y ∧ b ≠ d ∧ q ≠ s ∧ B ≤ b ∧ B ≤ d ∧ B ≤ q ∧ B ≤ s ∧ Rising x ∧ Rising y
theorem joinL_rising {sz : Int} {x y : List (Int × Int)} (hx : Rising x) (hy : Rising y) : Rising (joinL sz x y) := by
  unfold joinL
  split
  · rename_i h
    refine join_rising hx hy fun e => ?_
    unfold joinE at h
    rw [(meetB_iff x y).2 e] at h
    simp at h
  · exact hx
theorem joinR_rising {sz : Int} {x y : List (Int × Int)} (hy : Rising y) : Rising (joinR sz x y) := by
  unfold joinR; split
  · exact rising_nil
  · exact hy
theorem join_len (sz : Int) (x y : List (Int × Int)) : (joinL sz x y).length + (joinR sz x y).length = x.length + y.length := by
  unfold joinL joinR
  split <;> simp

set_option maxRecDepth 100000 in
set_option maxHeartbeats 40000000 in
theorem walk (size : Int) (a : Option Addr) (len cap : Nat) (zz : List Cl) (w : World) (hsz : (Lit.int .i64 size).wf = true) (hz : OpsC w a len zz) :
    Calls Try.prog 3 #[.int .i64 size, .slice a len cap] w fun e w' => e = .returned (.bool true) ∧ Below w.heap.size w w' := by
  have hlen := hz.2.1
  have HZ := Lib.hid hz
  clear hsz hz
  by_cases hgood : 128 ≤ size ∧ size ≤ 4096
  · obtain ⟨z1, z2⟩ := hgood
    go_enter Try.func3, Try.ntmps3
    go_wp2_with fail
    refine (cnew_at size w z1 z2).mono ?_
    rintro e W0 ⟨rfl, p0, B0, n0⟩
    have n0' : w.heap.size < W0.heap.size := by omega
    clear n0
    generalize hb : w.heap.size = B at p0 n0' ⊢
    have HBW := Lib.hid hb
    rw [hb] at B0
    clear hb
    go_wp2_with fail
    refine (cnew_at size W0 z1 z2).mono ?_
    rintro e W1 ⟨rfl, d1, g, n1⟩
    have p1 := CAt.keepB p0 g
    have B1 := bel_gbn B0 (Nat.le_of_lt n0') (gb_below g)
    have n1' : W0.heap.size < W1.heap.size := by omega
    clear g n1 p0 B0
    go_wp2_with fail
    refine (rnew_at size W1 z1 z2).mono ?_
    rintro e W2 ⟨rfl, q2, g, n2⟩
    have p2 := CAt.keepB p1 g
    have d2 := CAt.keepB d1 g
    have B2 := bel_gbn B1 (by omega) (gb_below g)
    have n2' : W1.heap.size < W2.heap.size := by omega
    clear g n2 p1 d1 B1
    go_wp2_with fail
    refine (rnew_at size W2 z1 z2).mono ?_
    rintro e W3 ⟨rfl, s3, g, n3⟩
    have p3 := CAt.keepB p2 g
    have d3 := CAt.keepB d2 g
    have q3 := CAt.keepB q2 g
    have B3 := bel_gbn B2 (by omega) (gb_below g)
    have n3' : W2.heap.size < W3.heap.size := by omega
    clear g n3 p2 d2 q2 B2
    have F3 : Four W3 B B W0.heap.size W1.heap.size W2.heap.size size [] [] := ⟨p3, d3, q3, s3, by omega, by omega, by omega, by omega, by omega, by omega, rising_nil, rising_nil⟩
    have n3b : B < W3.heap.size := by omega
    clear p3 d3 q3 s3 n0' n1' n2' n3'
    generalize W0.heap.size = d9 at *
    generalize W1.heap.size = q at *
    generalize W2.heap.size = s9 at *
    go_wp2_with fail
    go_loopw [5, 7, 11, 13] (fun c d s i wr => ∃ (j b0 d0 s0 : Nat) (x y : List (Int × Int)), j ≤ len ∧ j ≤ 60 ∧ i = .int .i64 (j : Int) ∧ c = .pointer (some ⟨b0, 0, none⟩) ∧ d = .pointer (some ⟨d0, 0, none⟩) ∧ s = .pointer (some ⟨s0, 0, none⟩) ∧ Four wr B b0 d0 q s0 size x y ∧ x.length + y.length ≤ j ∧ Below B w wr ∧ B < wr.heap.size) (fun _ _ _ i _ => len - (intOf i).toNat)
    case atStart => exact ⟨0, _, _, _, [], [], Nat.zero_le _, Nat.zero_le _, rfl, rfl, rfl, rfl, F3, Nat.le_refl _, B3, n3b⟩
    case round =>
      obtain ⟨j, b, d, s, x, y, hj, hj2, rfl, rfl, rfl, rfl, F1, hxy, B1, n1⟩ := hrel
      by_cases hjl : j < len ∧ j < 60
      · obtain ⟨hjl, hjh⟩ := hjl
        obtain ⟨u, o, rfl, hu, x0, x1, x2, x3, h64⟩ := HZ.out.at_ j hjl
        have hub : u < B := by rw [← HBW.out]; exact hu
        rw [← B1.cell hub] at x0 x1 x2 x3
        clear hu
        generalize opOf zz j = op at *
        obtain ⟨K, T, V, P⟩ := op
        replace x0 : wr.cell? ⟨u, o + j * 4, none⟩ = some (.int .i64 K) := x0
        replace x1 : wr.cell? ⟨u, o + j * 4 + 1, none⟩ = some (.int .i64 T) := x1
        replace x2 : wr.cell? ⟨u, o + j * 4 + 2, none⟩ = some (.int .i64 V) := x2
        replace x3 : wr.cell? ⟨u, o + j * 4 + 3, none⟩ = some (.int .i64 P) := x3
        have h64T : in64 T := h64.2.1
        have h64V : in64 V := h64.2.2.1
        clear h64
        obtain ⟨hP, hD, hQ, hS, hbd, hqs, c1, c2, c3, c4, hrx, hry⟩ := F1
        have ga := World.grownBy_alloc wr (.cells #[.int .i64 K, .int .i64 T, .int .i64 V, .int .i64 P] 33) none
        have HO := Lib.hid (heap_new wr (.cells #[.int .i64 K, .int .i64 T, .int .i64 V, .int .i64 P] 33))
        have p1 : PCk (wr.alloc (.cells #[.int .i64 K, .int .i64 T, .int .i64 V, .int .i64 P] 33)) b size x := CAt.keepN hP ga
        have d1 : PCk (wr.alloc (.cells #[.int .i64 K, .int .i64 T, .int .i64 V, .int .i64 P] 33)) d size y := CAt.keepN hD ga
        have q1 : RCk (wr.alloc (.cells #[.int .i64 K, .int .i64 T, .int .i64 V, .int .i64 P] 33)) q size x := CAt.keepN hQ ga
        have s1 : RCk (wr.alloc (.cells #[.int .i64 K, .int .i64 T, .int .i64 V, .int .i64 P] 33)) s size y := CAt.keepN hS ga
        have B2 := B1.alloc (Nat.le_of_lt n1) (.cells #[.int .i64 K, .int .i64 T, .int .i64 V, .int .i64 P] 33)
        have n2 : wr.heap.size < (wr.alloc (.cells #[.int .i64 K, .int .i64 T, .int .i64 V, .int .i64 P] 33)).heap.size := by simp
        have HRX := Lib.hid hrx
        have HRY := Lib.hid hry
        have hx4 : x.length ≤ 400 := by omega
        have hy4 : y.length ≤ 400 := by omega
        have hbk := CAt.lt hP
        have hdk := CAt.lt hD
        have hqk := CAt.lt hQ
        have hsk := CAt.lt hS
        clear hP hD hQ hS ga B1 hrx hry
        rcases (show K = 2 ∨ K = 0 ∨ K = 1 ∨ K = 3 ∨ K = 4 ∨ (K < 0 ∨ 4 < K) by omega) with hK | hK | hK | hK | hK | hK
        · subst hK
          by_cases h2 : x.length < 2
          · go_wp2_with fail
            generalize wr.alloc (.cells #[.int .i64 2, .int .i64 T, .int .i64 V, .int .i64 P] 33) = W2 at *
            generalize wr.heap.size = kx at *
            have y0 : W2.cell? ⟨kx, 0, none⟩ = some (.int .i64 2) := by rw [cell_of HO.out]; rfl
            have y1 : W2.cell? ⟨kx, 1, none⟩ = some (.int .i64 T) := by rw [cell_of HO.out]; rfl
            have y2 : W2.cell? ⟨kx, 2, none⟩ = some (.int .i64 V) := by rw [cell_of HO.out]; rfl
            have y3 : W2.cell? ⟨kx, 3, none⟩ = some (.int .i64 P) := by rw [cell_of HO.out]; rfl
            go_wp2_with fail
            refine (split_few b size x W2 p1 (by omega) h2).mono ?_
            rintro e w' ⟨rfl, rfl⟩
            go_wp2_with fail
            refine (rsplit_few q size x W2 q1 h2).mono ?_
            rintro e w' ⟨rfl, rfl⟩
            have P4 := p1
            have D4 := d1
            have Q4 := q1
            have S4 := s1
            have B4 := B2
            have n4 : B < W2.heap.size := by omega
            have HRX4 := HRX
            have HRY4 := HRY
            have hbd4 := hbd
            have hqs4 := hqs
            have l1 := c1
            have l2 := c2
            have l3 := c3
            have l4 := c4
            clear p1 d1 q1 s1 B2 y0 y1 y2 y3
            generalize W2 = W4 at *
            go_wp2_with fail
            refine (csame_ok b q size x W4 P4 Q4 (by omega) (by omega)).mono ?_
            rintro e W5 ⟨rfl, g⟩
            have B5 := bel_gbn B4 (Nat.le_of_lt n4) (gb_below g)
            have n5 := Nat.lt_of_lt_of_le n4 g.size
            have P5 : PCk W5 b size x := CAt.keepB P4 g
            have D5 : PCk W5 d size y := CAt.keepB D4 g
            have Q5 : RCk W5 q size x := CAt.keepB Q4 g
            have S5 : RCk W5 s size y := CAt.keepB S4 g
            clear g P4 D4 Q4 S4 B4 n4
            go_wp2_with fail
            refine (csame_ok d s size y W5 D5 S5 (by omega) (by omega)).mono ?_
            rintro e W6 ⟨rfl, g⟩
            have B6 := bel_gbn B5 (Nat.le_of_lt n5) (gb_below g)
            have n6 := Nat.lt_of_lt_of_le n5 g.size
            have F6 : Four W6 B b d q s size x y := ⟨CAt.keepB P5 g, CAt.keepB D5 g, CAt.keepB Q5 g, CAt.keepB S5 g, hbd4, hqs4, l1, l2, l3, l4, HRX4.out, HRY4.out⟩
            clear g P5 D5 Q5 S5 B5 n5
            go_wp2
            go_roundw
            case rel => exact ⟨j + 1, b, d, s, x, y, by omega, by omega, by go_num, rfl, rfl, rfl, F6, by omega, B6, n6⟩
            case measure => simp [intOf]; omega
          · go_wp2_with fail
            generalize wr.alloc (.cells #[.int .i64 2, .int .i64 T, .int .i64 V, .int .i64 P] 33) = W2 at *
            generalize wr.heap.size = kx at *
            have y0 : W2.cell? ⟨kx, 0, none⟩ = some (.int .i64 2) := by rw [cell_of HO.out]; rfl
            have y1 : W2.cell? ⟨kx, 1, none⟩ = some (.int .i64 T) := by rw [cell_of HO.out]; rfl
            have y2 : W2.cell? ⟨kx, 2, none⟩ = some (.int .i64 V) := by rw [cell_of HO.out]; rfl
            have y3 : W2.cell? ⟨kx, 3, none⟩ = some (.int .i64 P) := by rw [cell_of HO.out]; rfl
            go_wp2_with fail
            refine (split_ok b size x W2 p1 (by omega) (by omega) (by omega)).mono ?_
            rintro e W3 ⟨o1, rfl, ho1, P3, D3, g⟩
            have hbq := CAt.apart p1 q1
            have nb := CAt.no p1 (by decide)
            have Q3 : RCk W3 q size x := CAt.keep q1 g (Ne.symm hbq) nb
            have B3 := bel_gb B2 (by omega) c1 g
            have n3 : kx < W3.heap.size := Nat.lt_of_lt_of_le n2 g.size
            clear g p1 d1 q1 s1 B2 y0 y1 y2 y3 nb
            go_wp2_with fail
            refine (rsplit_ok q size x W3 Q3 (by omega) (by omega)).mono ?_
            rintro e W4 ⟨o2, rfl, ho2, Q4, S4, g⟩
            have nq := CAt.no Q3 (by decide)
            have P4 : PCk W4 b size (x.take (halfK x)) := CAt.keep P3 g hbq nq
            have D4 : PCk W4 o1 size (x.drop (halfK x)) := CAt.keep D3 g (CAt.apart D3 Q3) nq
            have B4 := bel_gb B3 (by omega) c3 g
            have n4 : B < W4.heap.size := by have := g.size; omega
            have HRX4 := Lib.hid (rising_take HRX.out (halfK x))
            have HRY4 := Lib.hid (rising_drop HRX.out (halfK x))
            have hbd4 : b ≠ o1 := by omega
            have hq3 := CAt.lt Q3
            have hqs4 : q ≠ o2 := by omega
            have l1 := c1
            have l2 : B ≤ o1 := by omega
            have l3 := c3
            have l4 : B ≤ o2 := by omega
            have hxy4 : (x.take (halfK x)).length + (x.drop (halfK x)).length = x.length := by simp; omega
            clear g P3 D3 Q3 B3 nq hq3
            generalize x.take (halfK x) = xl at *
            generalize x.drop (halfK x) = xr at *
            go_wp2_with fail
            refine (csame_ok b q size xl W4 P4 Q4 (by omega) (by omega)).mono ?_
            rintro e W5 ⟨rfl, g⟩
            have B5 := bel_gbn B4 (Nat.le_of_lt n4) (gb_below g)
            have n5 := Nat.lt_of_lt_of_le n4 g.size
            have P5 : PCk W5 b size xl := CAt.keepB P4 g
            have D5 : PCk W5 o1 size xr := CAt.keepB D4 g
            have Q5 : RCk W5 q size xl := CAt.keepB Q4 g
            have S5 : RCk W5 o2 size xr := CAt.keepB S4 g
            clear g P4 D4 Q4 S4 B4 n4
            go_wp2_with fail
            refine (csame_ok o1 o2 size xr W5 D5 S5 (by omega) (by omega)).mono ?_
            rintro e W6 ⟨rfl, g⟩
            have B6 := bel_gbn B5 (Nat.le_of_lt n5) (gb_below g)
            have n6 := Nat.lt_of_lt_of_le n5 g.size
            have F6 : Four W6 B b o1 q o2 size xl xr := ⟨CAt.keepB P5 g, CAt.keepB D5 g, CAt.keepB Q5 g, CAt.keepB S5 g, hbd4, hqs4, l1, l2, l3, l4, HRX4.out, HRY4.out⟩
            clear g P5 D5 Q5 S5 B5 n5
            go_wp2
            go_roundw
            case rel => exact ⟨j + 1, b, o1, o2, xl, xr, by omega, by omega, by go_num, rfl, rfl, rfl, F6, by omega, B6, n6⟩
            case measure => simp [intOf]; omega
        · subst hK
          go_wp2_with fail
          generalize wr.alloc (.cells #[.int .i64 0, .int .i64 T, .int .i64 V, .int .i64 P] 33) = W2 at *
          generalize wr.heap.size = kx at *
          have y0 : W2.cell? ⟨kx, 0, none⟩ = some (.int .i64 0) := by rw [cell_of HO.out]; rfl
          have y1 : W2.cell? ⟨kx, 1, none⟩ = some (.int .i64 T) := by rw [cell_of HO.out]; rfl
          have y2 : W2.cell? ⟨kx, 2, none⟩ = some (.int .i64 V) := by rw [cell_of HO.out]; rfl
          have y3 : W2.cell? ⟨kx, 3, none⟩ = some (.int .i64 P) := by rw [cell_of HO.out]; rfl
          go_wp2_with fail
          refine (play_put b d q s size x y T V P W2 p1 d1 q1 s1 hbd hqs (by omega) z2 HRX.out hx4 h64T h64V).mono ?_
          rintro e W4 ⟨rfl, P4, D4, Q4, S4, g⟩
          have B4 := bel_four B2 (by omega) c1 c2 c3 c4 g
          have n4 : B < W4.heap.size := by have := g.2.2.2.1; omega
          have HRX4 := Lib.hid (putL_rising HRX.out size T V P)
          have HRY4 := HRY
          have hl4 := putL_length HRX.out size T V P
          have hbd4 := hbd
          have hqs4 := hqs
          have l1 := c1
          have l2 := c2
          have l3 := c3
          have l4 := c4
          clear g p1 d1 q1 s1 B2 y0 y1 y2 y3
          generalize (putL size x T V P).2 = l at *
          go_wp2_with fail
          refine (csame_ok b q size l W4 P4 Q4 (by omega) (by omega)).mono ?_
          rintro e W5 ⟨rfl, g⟩
          have B5 := bel_gbn B4 (Nat.le_of_lt n4) (gb_below g)
          have n5 := Nat.lt_of_lt_of_le n4 g.size
          have P5 : PCk W5 b size l := CAt.keepB P4 g
          have D5 : PCk W5 d size y := CAt.keepB D4 g
          have Q5 : RCk W5 q size l := CAt.keepB Q4 g
          have S5 : RCk W5 s size y := CAt.keepB S4 g
          clear g P4 D4 Q4 S4 B4 n4
          go_wp2_with fail
          refine (csame_ok d s size y W5 D5 S5 (by omega) (by omega)).mono ?_
          rintro e W6 ⟨rfl, g⟩
          have B6 := bel_gbn B5 (Nat.le_of_lt n5) (gb_below g)
          have n6 := Nat.lt_of_lt_of_le n5 g.size
          have F6 : Four W6 B b d q s size l y := ⟨CAt.keepB P5 g, CAt.keepB D5 g, CAt.keepB Q5 g, CAt.keepB S5 g, hbd4, hqs4, l1, l2, l3, l4, HRX4.out, HRY4.out⟩
          clear g P5 D5 Q5 S5 B5 n5
          go_wp2
          go_roundw
          case rel => exact ⟨j + 1, b, d, s, l, y, by omega, by omega, by go_num, rfl, rfl, rfl, F6, by omega, B6, n6⟩
          case measure => simp [intOf]; omega
        · subst hK
          go_wp2_with fail
          generalize wr.alloc (.cells #[.int .i64 1, .int .i64 T, .int .i64 V, .int .i64 P] 33) = W2 at *
          generalize wr.heap.size = kx at *
          have y0 : W2.cell? ⟨kx, 0, none⟩ = some (.int .i64 1) := by rw [cell_of HO.out]; rfl
          have y1 : W2.cell? ⟨kx, 1, none⟩ = some (.int .i64 T) := by rw [cell_of HO.out]; rfl
          have y2 : W2.cell? ⟨kx, 2, none⟩ = some (.int .i64 V) := by rw [cell_of HO.out]; rfl
          have y3 : W2.cell? ⟨kx, 3, none⟩ = some (.int .i64 P) := by rw [cell_of HO.out]; rfl
          go_wp2_with fail
          refine (play_drop b d q s size x y T V P W2 p1 d1 q1 s1 hbd hqs (by omega) z2 HRX.out hx4).mono ?_
          rintro e W4 ⟨rfl, P4, D4, Q4, S4, g⟩
          have B4 := bel_four B2 (by omega) c1 c2 c3 c4 g
          have n4 : B < W4.heap.size := by have := g.2.2.2.1; omega
          have HRX4 := Lib.hid (dropL_rising HRX.out T V)
          have HRY4 := HRY
          have hl4 : (dropL x T V).length ≤ x.length := by have := dropL_length x T V; omega
          have hbd4 := hbd
          have hqs4 := hqs
          have l1 := c1
          have l2 := c2
          have l3 := c3
          have l4 := c4
          clear g p1 d1 q1 s1 B2 y0 y1 y2 y3
          generalize dropL x T V = l at *
          go_wp2_with fail
          refine (csame_ok b q size l W4 P4 Q4 (by omega) (by omega)).mono ?_
          rintro e W5 ⟨rfl, g⟩
          have B5 := bel_gbn B4 (Nat.le_of_lt n4) (gb_below g)
          have n5 := Nat.lt_of_lt_of_le n4 g.size
          have P5 : PCk W5 b size l := CAt.keepB P4 g
          have D5 : PCk W5 d size y := CAt.keepB D4 g
          have Q5 : RCk W5 q size l := CAt.keepB Q4 g
          have S5 : RCk W5 s size y := CAt.keepB S4 g
          clear g P4 D4 Q4 S4 B4 n4
          go_wp2_with fail
          refine (csame_ok d s size y W5 D5 S5 (by omega) (by omega)).mono ?_
          rintro e W6 ⟨rfl, g⟩
          have B6 := bel_gbn B5 (Nat.le_of_lt n5) (gb_below g)
          have n6 := Nat.lt_of_lt_of_le n5 g.size
          have F6 : Four W6 B b d q s size l y := ⟨CAt.keepB P5 g, CAt.keepB D5 g, CAt.keepB Q5 g, CAt.keepB S5 g, hbd4, hqs4, l1, l2, l3, l4, HRX4.out, HRY4.out⟩
          clear g P5 D5 Q5 S5 B5 n5
          go_wp2
          go_roundw
          case rel => exact ⟨j + 1, b, d, s, l, y, by omega, by omega, by go_num, rfl, rfl, rfl, F6, by omega, B6, n6⟩
          case measure => simp [intOf]; omega
        · subst hK
          go_wp2_with fail
          generalize wr.alloc (.cells #[.int .i64 3, .int .i64 T, .int .i64 V, .int .i64 P] 33) = W2 at *
          generalize wr.heap.size = kx at *
          have y0 : W2.cell? ⟨kx, 0, none⟩ = some (.int .i64 3) := by rw [cell_of HO.out]; rfl
          have y1 : W2.cell? ⟨kx, 1, none⟩ = some (.int .i64 T) := by rw [cell_of HO.out]; rfl
          have y2 : W2.cell? ⟨kx, 2, none⟩ = some (.int .i64 V) := by rw [cell_of HO.out]; rfl
          have y3 : W2.cell? ⟨kx, 3, none⟩ = some (.int .i64 P) := by rw [cell_of HO.out]; rfl
          go_wp2_with fail
          refine (play_join b d q s size x y T V P W2 p1 d1 q1 s1 hbd hqs (by omega) z2 HRX.out hx4 hy4).mono ?_
          rintro e W4 ⟨rfl, P4, D4, Q4, S4, g⟩
          have B4 := bel_four B2 (by omega) c1 c2 c3 c4 g
          have n4 : B < W4.heap.size := by have := g.2.2.2.1; omega
          have HRX4 := Lib.hid (joinL_rising (sz := size) HRX.out HRY.out)
          have HRY4 := Lib.hid (joinR_rising (sz := size) (x := x) HRY.out)
          have hl4 := join_len size x y
          have hbd4 := hbd
          have hqs4 := hqs
          have l1 := c1
          have l2 := c2
          have l3 := c3
          have l4 := c4
          clear g p1 d1 q1 s1 B2 y0 y1 y2 y3
          generalize joinL size x y = l at *
          generalize joinR size x y = ly at *
          go_wp2_with fail
          refine (csame_ok b q size l W4 P4 Q4 (by omega) (by omega)).mono ?_
          rintro e W5 ⟨rfl, g⟩
          have B5 := bel_gbn B4 (Nat.le_of_lt n4) (gb_below g)
          have n5 := Nat.lt_of_lt_of_le n4 g.size
          have P5 : PCk W5 b size l := CAt.keepB P4 g
          have D5 : PCk W5 d size ly := CAt.keepB D4 g
          have Q5 : RCk W5 q size l := CAt.keepB Q4 g
          have S5 : RCk W5 s size ly := CAt.keepB S4 g
          clear g P4 D4 Q4 S4 B4 n4
          go_wp2_with fail
          refine (csame_ok d s size ly W5 D5 S5 (by omega) (by omega)).mono ?_
          rintro e W6 ⟨rfl, g⟩
          have B6 := bel_gbn B5 (Nat.le_of_lt n5) (gb_below g)
          have n6 := Nat.lt_of_lt_of_le n5 g.size
          have F6 : Four W6 B b d q s size l ly := ⟨CAt.keepB P5 g, CAt.keepB D5 g, CAt.keepB Q5 g, CAt.keepB S5 g, hbd4, hqs4, l1, l2, l3, l4, HRX4.out, HRY4.out⟩
          clear g P5 D5 Q5 S5 B5 n5
          go_wp2
          go_roundw
          case rel => exact ⟨j + 1, b, d, s, l, ly, by omega, by omega, by go_num, rfl, rfl, rfl, F6, by omega, B6, n6⟩
          case measure => simp [intOf]; omega
        · subst hK
          go_wp2_with fail
          generalize wr.alloc (.cells #[.int .i64 4, .int .i64 T, .int .i64 V, .int .i64 P] 33) = W2 at *
          generalize wr.heap.size = kx at *
          have y0 : W2.cell? ⟨kx, 0, none⟩ = some (.int .i64 4) := by rw [cell_of HO.out]; rfl
          have y1 : W2.cell? ⟨kx, 1, none⟩ = some (.int .i64 T) := by rw [cell_of HO.out]; rfl
          have y2 : W2.cell? ⟨kx, 2, none⟩ = some (.int .i64 V) := by rw [cell_of HO.out]; rfl
          have y3 : W2.cell? ⟨kx, 3, none⟩ = some (.int .i64 P) := by rw [cell_of HO.out]; rfl
          go_wp2_with fail
          refine (play_get b d q s size x y 4 T V P W2 p1 d1 q1 s1 hbd hqs (by omega) z2 HRX.out hx4 (by decide) (by decide) (by decide)).mono ?_
          rintro e W4 ⟨rfl, P4, D4, Q4, S4, g⟩
          have B4 := bel_four B2 (by omega) c1 c2 c3 c4 g
          have n4 : B < W4.heap.size := by have := g.2.2.2.1; omega
          have HRX4 := HRX
          have HRY4 := HRY
          have hbd4 := hbd
          have hqs4 := hqs
          have l1 := c1
          have l2 := c2
          have l3 := c3
          have l4 := c4
          clear g p1 d1 q1 s1 B2 y0 y1 y2 y3
          go_wp2_with fail
          refine (csame_ok b q size x W4 P4 Q4 (by omega) (by omega)).mono ?_
          rintro e W5 ⟨rfl, g⟩
          have B5 := bel_gbn B4 (Nat.le_of_lt n4) (gb_below g)
          have n5 := Nat.lt_of_lt_of_le n4 g.size
          have P5 : PCk W5 b size x := CAt.keepB P4 g
          have D5 : PCk W5 d size y := CAt.keepB D4 g
          have Q5 : RCk W5 q size x := CAt.keepB Q4 g
          have S5 : RCk W5 s size y := CAt.keepB S4 g
          clear g P4 D4 Q4 S4 B4 n4
          go_wp2_with fail
          refine (csame_ok d s size y W5 D5 S5 (by omega) (by omega)).mono ?_
          rintro e W6 ⟨rfl, g⟩
          have B6 := bel_gbn B5 (Nat.le_of_lt n5) (gb_below g)
          have n6 := Nat.lt_of_lt_of_le n5 g.size
          have F6 : Four W6 B b d q s size x y := ⟨CAt.keepB P5 g, CAt.keepB D5 g, CAt.keepB Q5 g, CAt.keepB S5 g, hbd4, hqs4, l1, l2, l3, l4, HRX4.out, HRY4.out⟩
          clear g P5 D5 Q5 S5 B5 n5
          go_wp2
          go_roundw
          case rel => exact ⟨j + 1, b, d, s, x, y, by omega, by omega, by go_num, rfl, rfl, rfl, F6, by omega, B6, n6⟩
          case measure => simp [intOf]; omega
        · have hk2 : (K == 2) = false := by rw [beq_eq_false_iff_ne]; omega
          rcases hK with hK | hK
          all_goals
            go_wp2_with fail
            generalize wr.alloc (.cells #[.int .i64 K, .int .i64 T, .int .i64 V, .int .i64 P] 33) = W2 at *
            generalize wr.heap.size = kx at *
            have y0 : W2.cell? ⟨kx, 0, none⟩ = some (.int .i64 K) := by rw [cell_of HO.out]; rfl
            have y1 : W2.cell? ⟨kx, 1, none⟩ = some (.int .i64 T) := by rw [cell_of HO.out]; rfl
            have y2 : W2.cell? ⟨kx, 2, none⟩ = some (.int .i64 V) := by rw [cell_of HO.out]; rfl
            have y3 : W2.cell? ⟨kx, 3, none⟩ = some (.int .i64 P) := by rw [cell_of HO.out]; rfl
            go_wp2_with fail
            refine (copy_ok b size x W2 p1 (by omega) (by omega)).mono ?_
            rintro e W3 ⟨o1, rfl, ho1, P3, g⟩
            have b3 : PCk W3 b size x := CAt.keepB p1 g
            have D3 : PCk W3 d size y := CAt.keepB d1 g
            have Q3 : RCk W3 q size x := CAt.keepB q1 g
            have S3 : RCk W3 s size y := CAt.keepB s1 g
            have B3 := bel_gbn B2 (by omega) (gb_below g)
            have n3 : kx < W3.heap.size := Nat.lt_of_lt_of_le n2 g.size
            clear g p1 d1 q1 s1 B2 y0 y1 y2 y3
            go_wp2_with fail
            refine (drop_ok b size x 0 1099511627776 W3 b3 (by omega) HRX.out (by omega)).mono ?_
            rintro e W4 ⟨rfl, _, g⟩
            have nb := CAt.no b3 (by decide)
            have P4 : PCk W4 o1 size x := CAt.keep P3 g (by omega) nb
            have D4 : PCk W4 d size y := CAt.keep D3 g (Ne.symm hbd) nb
            have Q4 : RCk W4 q size x := CAt.keep Q3 g (Ne.symm (CAt.apart b3 Q3)) nb
            have S4 : RCk W4 s size y := CAt.keep S3 g (Ne.symm (CAt.apart b3 S3)) nb
            have B4 := bel_gb B3 (by omega) c1 g
            have n4 : B < W4.heap.size := by have := g.size; omega
            have HRX4 := HRX
            have HRY4 := HRY
            have hbd4 : o1 ≠ d := by omega
            have hqs4 := hqs
            have l1 : B ≤ o1 := by omega
            have l2 := c2
            have l3 := c3
            have l4 := c4
            clear g b3 P3 D3 Q3 S3 B3 nb
            go_wp2_with fail
            refine (csame_ok o1 q size x W4 P4 Q4 (by omega) (by omega)).mono ?_
            rintro e W5 ⟨rfl, g⟩
            have B5 := bel_gbn B4 (Nat.le_of_lt n4) (gb_below g)
            have n5 := Nat.lt_of_lt_of_le n4 g.size
            have P5 : PCk W5 o1 size x := CAt.keepB P4 g
            have D5 : PCk W5 d size y := CAt.keepB D4 g
            have Q5 : RCk W5 q size x := CAt.keepB Q4 g
            have S5 : RCk W5 s size y := CAt.keepB S4 g
            clear g P4 D4 Q4 S4 B4 n4
            go_wp2_with fail
            refine (csame_ok d s size y W5 D5 S5 (by omega) (by omega)).mono ?_
            rintro e W6 ⟨rfl, g⟩
            have B6 := bel_gbn B5 (Nat.le_of_lt n5) (gb_below g)
            have n6 := Nat.lt_of_lt_of_le n5 g.size
            have F6 : Four W6 B o1 d q s size x y := ⟨CAt.keepB P5 g, CAt.keepB D5 g, CAt.keepB Q5 g, CAt.keepB S5 g, hbd4, hqs4, l1, l2, l3, l4, HRX4.out, HRY4.out⟩
            clear g P5 D5 Q5 S5 B5 n5
            go_wp2
            go_roundw
            case rel => exact ⟨j + 1, o1, d, s, x, y, by omega, by omega, by go_num, rfl, rfl, rfl, F6, by omega, B6, n6⟩
            case measure => simp [intOf]; omega
      · have hexit : ¬ j < len ∨ (j < len ∧ ¬ j < 60) := by omega
        clear hjl
        rcases hexit with h1 | ⟨h1, h2⟩
        all_goals
          go_wp2_with fail
          refine (cknown_any _).mono ?_
          rintro e W9 ⟨rfl, b9⟩
          have B9 := bel_gbn B1 (Nat.le_of_lt n1) (gb_below b9)
          clear b9
          go_wp2
          go_ret
          exact ⟨rfl, by rw [HBW.out]; exact B9⟩
  · go_enter Try.func3, Try.ntmps3
    go_wp2_with fail
    refine (cnew_bad size w hgood).mono ?_
    rintro e w' ⟨rfl, rfl⟩
    go_wp2_with fail
    refine (cnew_bad size w hgood).mono ?_
    rintro e w' ⟨rfl, rfl⟩
    go_wp2_with fail
    refine (rnew_bad size w hgood).mono ?_
    rintro e w' ⟨rfl, rfl⟩
    go_wp2_with fail
    refine (rnew_bad size w hgood).mono ?_
    rintro e w' ⟨rfl, rfl⟩
    go_wp2_with fail
    go_loopw [5, 13] (fun c i wr => c = .pointer none ∧ i = .int .i64 0 ∧ wr = w) (fun _ i _ => 0)
    case atStart => exact ⟨rfl, rfl, rfl⟩
    case round =>
      obtain ⟨rfl, rfl, rfl⟩ := hrel
      by_cases h0 : 0 < len
      all_goals
        go_wp2_with fail
        refine (cknown_any _).mono ?_
        rintro e W9 ⟨rfl, b9⟩
        go_wp2
        go_ret
        exact ⟨rfl, b9⟩

set_option maxRecDepth 100000 in
theorem lifted (os : Os) (started : os.Started) (H : Type) (enc : TypeId × Value → H) :
    ReturnsInHanded {} Try.checked os 3 .any (Rows.chunkPlaysSpec.pre6 enc Try.prog Try.f3 Rows.chunkPlaysRow.domain false) (Rows.chunkPlaysSpec.post enc Try.prog Try.f3 false true false false) := by
  refine returnsInHanded_of_change (C := Try.checked) own started (by kernel_rfl) Try.func3
    (ChangeSpec.witness6 (enc := enc) (C := Try.checked) false ⟨#[], #[.int .i64 0, .slice none 0 0], []⟩ 8 (by kernel_rfl) (by kernel_rfl) (by kernel_rfl) (by kernel_rfl)) ?_
  intro W base args ds gs before hval0 hW hcnd _
  have hval : ∀ (j : Nat) t v, Try.f3.params[j]? = some t → args[j]? = some v → Value.okWide Try.prog W .any base t v := hval0
  have hW' := hW
  obtain ⟨p, q, hA0, hV, rfl, hfz, hnd⟩ := hW
  have hA : DataW.TrodAll enc Try.prog W 0 (fun _ => true) true Try.f3.params.toList args.toList ds p := hA0
  rw [Try.params3] at hA hval
  obtain ⟨v0, vs0, d0, ds0, p0, q0, hargs, rfl, rfl, h0, r0⟩ := trodAll_cons hA
  obtain ⟨v1, vs1, d1, ds1, p1, q1, rfl, rfl, rfl, h1, r1⟩ := trodAll_cons r0
  obtain ⟨rfl, rfl, rfl⟩ := trodAll_nil r1
  obtain rfl : args = #[v0, v1] := by cases args; simp_all
  obtain ⟨rfl, rfl⟩ := trodVars_none hV
  obtain ⟨a0, rfl, rfl, rfl, w0⟩ := open_int Try.underlying3 (hval 0 3 v0 rfl rfl) h0
  obtain ⟨a1, len1, cap1, rfl⟩ := okWide_slice Try.underlying22 (hval 1 22 v1 rfl rfl)
  have k1 := h1
  have lt1 : ∀ x ∈ p1, x.block < W.heap.size := by obtain ⟨m, hm⟩ := k1; exact DataW.trod_lt m _ _ _ hm
  obtain ⟨z1, w1⟩ := open_cops h1
  clear hA0 hval0
  refine (walk a0 a1 len1 cap1 z1 W w0 w1).mono fun e W' ⟨he, bel⟩ => ?_
  subst he
  exact ⟨_, rfl, _, _, _, [], _, [], hW', trodAll_mk1 (shut_bool Try.underlying4 _), (trodAll_cons_mk (shut_int Try.underlying3 w0) (trodAll_cons_mk (Below.trod laidOut (by kernel_rfl) (of_decide_eq_true (by kernel_rfl)) k1 bel lt1) trodAll_mk0)), rfl, bel.frame _, fun h => by cases h⟩

theorem over : Rows.chunkPlaysRow.holds Try.pinned (OpenSpec.ofChange Rows.chunkPlaysSpec) :=
  OpenClaim.holds_of_wide 3 Try.f3 rfl rfl rfl rfl rfl rfl rfl ⟨rfl, rfl, rfl, rfl, rfl⟩ rfl rfl rfl rfl rfl (by kernel_rfl) Try.func3 (by kernel_rfl)
    (of_decide_eq_true (by kernel_rfl)) (by unfold Func.isWrapper; first | (rw [if_pos (by decide +kernel)]; kernel_rfl) | (rw [if_neg (by decide +kernel)]; exact ⟨rfl, rfl⟩))
    (fun os started H enc _ => lifted os started H enc)

theorem proved : Rows.ChunkPlaysSaid := over
end chunkPlays
theorem chunkPlays_holds : Rows.ChunkPlaysSaid := chunkPlays.proved
#print axioms chunkPlays_holds
end Go.Proofs.Ytjhnajenkoepdaa
