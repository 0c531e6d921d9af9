/-
  The statement 'ChunkRises' of layer 4: for every calls and every time, times rise, whatever was put and dropped; what was put last for a time by the policy Last, and not dropped since, is got.
  No condition.
-/
import Derived.Test.YtjhnajenkoepdaaCKnown
import Derived.Test.YtjhnajenkoepdaaCOps
import Derived.Test.YtjhnajenkoepdaaCGets
import Derived.ShutString
import Derived.ChangeOld
namespace Go.Proofs.Ytjhnajenkoepdaa
namespace chunkRises
open Go.ChangeShapes Go.WideShapes Go.ChangeAt Go.RowKit
set_option linter.unusedVariables false
set_option linter.unusedSimpArgs false

theorem own : ownKnob Try.prog.godebug = none := by kernel_rfl
theorem laidOut : laidOutB Try.prog = true := by kernel_rfl

/-- What is got of a time: the number that was put last, or nothing. -/
def gotIs (r : Bool) (v : Int) : Int × Int := if r = true then (v, 0) else (0, 5)
/-- What putting by the policy Last leaves. -/
theorem last_cases (z : List (Int × Int)) (hr : Rising z) (T V : Int) :
    (∃ er, er ≠ 0 ∧ putL 4096 z T V 3 = (er, z)) ∨ putL 4096 z T V 3 = (0, insL z T V) := by
  by_cases hT : T < 0 ∨ 1099511627776 ≤ T
  · exact .inl ⟨1, by decide, by unfold putL; rw [if_pos hT]⟩
  · by_cases hb : 8 * 4096 < (bitsZ (insL z T V) : Int)
    · exact .inl ⟨2, by decide, by unfold putL; rw [if_neg hT, newV_last, if_neg (by simp), if_pos hb]⟩
    · exact .inr (by unfold putL; rw [if_neg hT, newV_last, if_neg (by simp), if_neg hb])

set_option maxRecDepth 100000 in
set_option maxHeartbeats 40000000 in
theorem walk (a : Option Addr) (len cap : Nat) (zz : List Cl) (t : Int) (w : World) (hz : OpsC w a len zz) (ht : (Lit.int .i64 t).wf = true) :
    Calls Try.prog 4 #[.slice a len cap, .int .i64 t] w fun e w' => e = .returned (.bool true) ∧ Below w.heap.size w w' := by
  have htb := bounds_i64 ht
  have hlen := hz.2.1
  have HZ := Lib.hid hz
  clear ht hz
  go_enter Try.func4, Try.ntmps4
  go_wp2_with fail
  refine (cnew_at 4096 w (by omega) (by omega)).mono ?_
  rintro e W0 ⟨rfl, p0, B0, n0⟩
  have n0' : w.heap.size < W0.heap.size := by omega
  clear n0
  generalize hb : w.heap.size = b at p0 n0' ⊢
  have HBW := Lib.hid hb
  rw [hb] at B0
  clear hb
  go_wp2_with fail
  go_loopw [7, 8, 9] (fun v r i wr => ∃ (j : Nat) (z : List (Int × Int)) (vv : Int) (rr : Bool), j ≤ len ∧ j ≤ 60 ∧ i = .int .i64 (j : Int) ∧ v = .int .i64 vv ∧ r = .bool rr ∧ PCk wr b 4096 z ∧ Rising z ∧ z.length ≤ j ∧ Hid (getL z t = gotIs rr vv) ∧ Below b w wr ∧ b < wr.heap.size) (fun _ _ i _ => len - (intOf i).toNat)
  case atStart => exact ⟨0, [], 0, false, Nat.zero_le _, Nat.zero_le _, rfl, rfl, rfl, p0, rising_nil, Nat.le_refl _, Lib.hid rfl, B0, n0'⟩
  case round =>
    obtain ⟨j, z, vv, rr, hj, hj2, rfl, rfl, rfl, hp, hr, hzl, HG, B1, n1⟩ := hrel
    by_cases hjl : j < len ∧ j < 60
    · obtain ⟨hjl, hjh⟩ := hjl
      obtain ⟨q, o, rfl, hq, x0, x1, x2, x3, h64⟩ := HZ.out.at_ j hjl
      have hqb : q < b := by rw [← HBW.out]; exact hq
      rw [← B1.cell hqb] at x0 x1 x2 x3
      clear hq
      generalize opOf zz j = op at *
      obtain ⟨K, T, V, P⟩ := op
      replace x0 : wr.cell? ⟨q, o + j * 4, none⟩ = some (.int .i64 K) := x0
      replace x1 : wr.cell? ⟨q, o + j * 4 + 1, none⟩ = some (.int .i64 T) := x1
      replace x2 : wr.cell? ⟨q, o + j * 4 + 2, none⟩ = some (.int .i64 V) := x2
      replace x3 : wr.cell? ⟨q, o + j * 4 + 3, none⟩ = some (.int .i64 P) := x3
      have h64T : in64 T := h64.2.1
      have h64V : in64 V := h64.2.2.1
      clear h64
      have HO := Lib.hid (heap_new wr (.cells #[.int .i64 K, .int .i64 T, .int .i64 V, .int .i64 P] 33))
      have p1 := CAt.keepN hp (World.grownBy_alloc wr (.cells #[.int .i64 K, .int .i64 T, .int .i64 V, .int .i64 P] 33) none)
      have B2 := B1.alloc (Nat.le_of_lt n1) (.cells #[.int .i64 K, .int .i64 T, .int .i64 V, .int .i64 P] 33)
      have n2 : wr.heap.size < (wr.alloc (.cells #[.int .i64 K, .int .i64 T, .int .i64 V, .int .i64 P] 33)).heap.size := by simp
      have HR := Lib.hid hr
      have hzs : z.length ≤ 60 := by omega
      clear hr hp B1
      rcases (show K = 0 ∨ K = 1 ∨ (K ≠ 0 ∧ K ≠ 1) by omega) with hK | hK | ⟨hK0, hK1⟩
      · subst hK
        rcases last_cases z HR.out T V with ⟨er, her, hP⟩ | hP
        · have HP := Lib.hid hP
          have hne : (er == 0) = false := by rw [beq_eq_false_iff_ne]; exact her
          have HR4 := HR
          have HG4 := HG
          clear hP her
          go_wp2_with fail
          generalize wr.alloc (.cells #[.int .i64 0, .int .i64 T, .int .i64 V, .int .i64 P] 33) = W2 at *
          generalize wr.heap.size = kx at *
          have y0 : W2.cell? ⟨kx, 0, none⟩ = some (.int .i64 0) := by rw [cell_of HO.out]; rfl
          have y1 : W2.cell? ⟨kx, 1, none⟩ = some (.int .i64 T) := by rw [cell_of HO.out]; rfl
          have y2 : W2.cell? ⟨kx, 2, none⟩ = some (.int .i64 V) := by rw [cell_of HO.out]; rfl

          go_wp2_with fail
          refine (put_at b 4096 z T V 3 er z W2 HP.out p1 (by omega) (by omega) HR.out (by omega) h64T h64V).mono ?_
          rintro e W4 ⟨rfl, p4, g⟩
          have B4 := bel_gb B2 (by omega) (Nat.le_refl b) g
          have n4 : b < W4.heap.size := Nat.lt_of_lt_of_le (Nat.lt_of_lt_of_le n1 (Nat.le_of_lt n2)) g.size
          have HO4 := Lib.hid ((g.block kx n2 (by simp; omega)).trans HO.out)
          clear g y0 y1 y2 p1 B2 HO

          have y0 : W4.cell? ⟨kx, 0, none⟩ = some (.int .i64 0) := by rw [cell_of HO4.out]; rfl
          have y1 : W4.cell? ⟨kx, 1, none⟩ = some (.int .i64 T) := by rw [cell_of HO4.out]; rfl
          have y2 : W4.cell? ⟨kx, 2, none⟩ = some (.int .i64 V) := by rw [cell_of HO4.out]; rfl
          go_wp2_with fail
          refine (all_ok b 4096 z W4 p4 (by omega) (by omega)).mono ?_
          rintro e W5 ⟨a5, c5, rfl, L5, g⟩
          have B5 := bel_gbn B4 (Nat.le_of_lt n4) (gb_below g)
          have n5 := Nat.lt_of_lt_of_le n4 g.size
          have p5 : PCk W5 b 4096 z := CAt.keepB p4 g
          clear g p4 B4 n4
          have HL5 := Lib.hid L5
          clear L5
          go_wp2_with fail
          go_loopw [12] (fun k wk => ∃ i : Nat, 1 ≤ i ∧ (i ≤ z.length ∨ i = 1) ∧ k = .int .i64 (i : Int) ∧ Drew W5 wk) (fun k _ => z.length - (intOf k).toNat)
          case atStart => exact ⟨1, Nat.le_refl _, .inr rfl, rfl, 0, rfl⟩
          case round =>
            obtain ⟨i, hi1, hi2, rfl, hd⟩ := hrel
            by_cases hil : i < z.length
            · obtain ⟨nn, rfl⟩ := hd
              obtain ⟨pp, oo, rfl, hpp, r0, r1⟩ := HL5.out.1.at_ i hil
              obtain ⟨pp', oo', he, _, s0, s1⟩ := HL5.out.1.at_ (i - 1) (by omega)
              cases he
              have r0 : (W5.drewN nn).cell? _ = _ := r0
              have s0 : (W5.drewN nn).cell? _ = _ := s0
              have hd : Drew W5 (W5.drewN nn) := ⟨nn, rfl⟩
              have hlt := HR4.out (i - 1) i (by omega) hil
              obtain ⟨i', hi'⟩ : ∃ i', i - 1 = i' := ⟨_, rfl⟩
              rw [hi'] at s0 hlt
              have hw : IntKind.i64.wrap ((i : Int) - 1) = (i' : Int) := by rw [IntWalk.i64_in _ ⟨by omega, by omega⟩]; omega
              have hi0 : (0 : Int) ≤ (i' : Int) := by omega
              have hi00 : (i' : Int) < (z.length : Int) := by omega
              have hi01 : (0 : Int) ≤ (i : Int) := by omega
              have hi02 : (i : Int) < (z.length : Int) := by omega
              have hdec : decide (tOf z i ≤ tOf z i') = false := by rw [decide_eq_false_iff_not]; omega
              clear hi' r1 s1
              generalize W5.drewN nn = W6 at *
              generalize tOf z i = t2 at *
              generalize tOf z i' = t1 at *
              go_wp2_with fail
              go_quiet (fail)
              go_wp2
              go_roundw
              case rel => exact ⟨i + 1, by omega, by omega, by go_num, by obtain ⟨m, rfl⟩ := hd; exact ⟨m + nq, by rw [World.drewN_drewN]⟩⟩
              case measure => simp [intOf]; omega
            · have g := hd.gb none
              have B6 := bel_gbn B5 (Nat.le_of_lt n5) g
              have n6 := Nat.lt_of_lt_of_le n5 g.size
              have p6 : PCk _ b 4096 z := CAt.keepN p5 g
              clear g hd B5 n5 p5
              go_wp2
              go_roundw
              case rel => exact ⟨j + 1, z, vv, rr, by omega, by omega, by go_num, rfl, rfl, p6, HR4.out, by omega, HG4, B6, n6⟩
              case measure => simp [intOf]; omega
        · have HP := Lib.hid hP
          have HR4 := Lib.hid (insL_rising HR.out T V)
          have hl4 : (insL z T V).length ≤ j + 1 := by have := insL_length z T V HR.out; omega
          clear hP
          by_cases hTt : T = t
          · have HG4 := Lib.hid (show getL (insL z T V) t = gotIs true V from by rw [← hTt]; exact getL_ins HR.out T V)
            have hq1 : (T == t) = true := by simpa using hTt
            clear hTt
            go_wp2_with fail
            generalize wr.alloc (.cells #[.int .i64 0, .int .i64 T, .int .i64 V, .int .i64 P] 33) = W2 at *
            generalize wr.heap.size = kx at *
            have y0 : W2.cell? ⟨kx, 0, none⟩ = some (.int .i64 0) := by rw [cell_of HO.out]; rfl
            have y1 : W2.cell? ⟨kx, 1, none⟩ = some (.int .i64 T) := by rw [cell_of HO.out]; rfl
            have y2 : W2.cell? ⟨kx, 2, none⟩ = some (.int .i64 V) := by rw [cell_of HO.out]; rfl

            go_wp2_with fail
            refine (put_at b 4096 z T V 3 0 (insL z T V) W2 HP.out p1 (by omega) (by omega) HR.out (by omega) h64T h64V).mono ?_
            rintro e W4 ⟨rfl, p4, g⟩
            have B4 := bel_gb B2 (by omega) (Nat.le_refl b) g
            have n4 : b < W4.heap.size := Nat.lt_of_lt_of_le (Nat.lt_of_lt_of_le n1 (Nat.le_of_lt n2)) g.size
            have HO4 := Lib.hid ((g.block kx n2 (by simp; omega)).trans HO.out)
            clear g y0 y1 y2 p1 B2 HO

            have y0 : W4.cell? ⟨kx, 0, none⟩ = some (.int .i64 0) := by rw [cell_of HO4.out]; rfl
            have y1 : W4.cell? ⟨kx, 1, none⟩ = some (.int .i64 T) := by rw [cell_of HO4.out]; rfl
            have y2 : W4.cell? ⟨kx, 2, none⟩ = some (.int .i64 V) := by rw [cell_of HO4.out]; rfl
            generalize insL z T V = l at *
            go_wp2_with fail
            refine (all_ok b 4096 l W4 p4 (by omega) (by omega)).mono ?_
            rintro e W5 ⟨a5, c5, rfl, L5, g⟩
            have B5 := bel_gbn B4 (Nat.le_of_lt n4) (gb_below g)
            have n5 := Nat.lt_of_lt_of_le n4 g.size
            have p5 : PCk W5 b 4096 l := CAt.keepB p4 g
            clear g p4 B4 n4
            have HL5 := Lib.hid L5
            clear L5
            go_wp2_with fail
            go_loopw [12] (fun k wk => ∃ i : Nat, 1 ≤ i ∧ (i ≤ l.length ∨ i = 1) ∧ k = .int .i64 (i : Int) ∧ Drew W5 wk) (fun k _ => l.length - (intOf k).toNat)
            case atStart => exact ⟨1, Nat.le_refl _, .inr rfl, rfl, 0, rfl⟩
            case round =>
              obtain ⟨i, hi1, hi2, rfl, hd⟩ := hrel
              by_cases hil : i < l.length
              · obtain ⟨nn, rfl⟩ := hd
                obtain ⟨pp, oo, rfl, hpp, r0, r1⟩ := HL5.out.1.at_ i hil
                obtain ⟨pp', oo', he, _, s0, s1⟩ := HL5.out.1.at_ (i - 1) (by omega)
                cases he
                have r0 : (W5.drewN nn).cell? _ = _ := r0
                have s0 : (W5.drewN nn).cell? _ = _ := s0
                have hd : Drew W5 (W5.drewN nn) := ⟨nn, rfl⟩
                have hlt := HR4.out (i - 1) i (by omega) hil
                obtain ⟨i', hi'⟩ : ∃ i', i - 1 = i' := ⟨_, rfl⟩
                rw [hi'] at s0 hlt
                have hw : IntKind.i64.wrap ((i : Int) - 1) = (i' : Int) := by rw [IntWalk.i64_in _ ⟨by omega, by omega⟩]; omega
                have hi0 : (0 : Int) ≤ (i' : Int) := by omega
                have hi00 : (i' : Int) < (l.length : Int) := by omega
                have hi01 : (0 : Int) ≤ (i : Int) := by omega
                have hi02 : (i : Int) < (l.length : Int) := by omega
                have hdec : decide (tOf l i ≤ tOf l i') = false := by rw [decide_eq_false_iff_not]; omega
                clear hi' r1 s1
                generalize W5.drewN nn = W6 at *
                generalize tOf l i = t2 at *
                generalize tOf l i' = t1 at *
                go_wp2_with fail
                go_quiet (fail)
                go_wp2
                go_roundw
                case rel => exact ⟨i + 1, by omega, by omega, by go_num, by obtain ⟨m, rfl⟩ := hd; exact ⟨m + nq, by rw [World.drewN_drewN]⟩⟩
                case measure => simp [intOf]; omega
              · have g := hd.gb none
                have B6 := bel_gbn B5 (Nat.le_of_lt n5) g
                have n6 := Nat.lt_of_lt_of_le n5 g.size
                have p6 : PCk _ b 4096 l := CAt.keepN p5 g
                clear g hd B5 n5 p5
                go_wp2
                go_roundw
                case rel => exact ⟨j + 1, l, V, true, by omega, by omega, by go_num, rfl, rfl, p6, HR4.out, by omega, HG4, B6, n6⟩
                case measure => simp [intOf]; omega
          · have HG4 := Lib.hid (show getL (insL z T V) t = gotIs rr vv from by rw [getL_ins_ne HR.out T V t (fun e => hTt e.symm)]; exact HG.out)
            have hq1 : (T == t) = false := by rw [beq_eq_false_iff_ne]; exact hTt
            clear hTt
            go_wp2_with fail
            generalize wr.alloc (.cells #[.int .i64 0, .int .i64 T, .int .i64 V, .int .i64 P] 33) = W2 at *
            generalize wr.heap.size = kx at *
            have y0 : W2.cell? ⟨kx, 0, none⟩ = some (.int .i64 0) := by rw [cell_of HO.out]; rfl
            have y1 : W2.cell? ⟨kx, 1, none⟩ = some (.int .i64 T) := by rw [cell_of HO.out]; rfl
            have y2 : W2.cell? ⟨kx, 2, none⟩ = some (.int .i64 V) := by rw [cell_of HO.out]; rfl

            go_wp2_with fail
            refine (put_at b 4096 z T V 3 0 (insL z T V) W2 HP.out p1 (by omega) (by omega) HR.out (by omega) h64T h64V).mono ?_
            rintro e W4 ⟨rfl, p4, g⟩
            have B4 := bel_gb B2 (by omega) (Nat.le_refl b) g
            have n4 : b < W4.heap.size := Nat.lt_of_lt_of_le (Nat.lt_of_lt_of_le n1 (Nat.le_of_lt n2)) g.size
            have HO4 := Lib.hid ((g.block kx n2 (by simp; omega)).trans HO.out)
            clear g y0 y1 y2 p1 B2 HO

            have y0 : W4.cell? ⟨kx, 0, none⟩ = some (.int .i64 0) := by rw [cell_of HO4.out]; rfl
            have y1 : W4.cell? ⟨kx, 1, none⟩ = some (.int .i64 T) := by rw [cell_of HO4.out]; rfl
            have y2 : W4.cell? ⟨kx, 2, none⟩ = some (.int .i64 V) := by rw [cell_of HO4.out]; rfl
            generalize insL z T V = l at *
            go_wp2_with fail
            refine (all_ok b 4096 l W4 p4 (by omega) (by omega)).mono ?_
            rintro e W5 ⟨a5, c5, rfl, L5, g⟩
            have B5 := bel_gbn B4 (Nat.le_of_lt n4) (gb_below g)
            have n5 := Nat.lt_of_lt_of_le n4 g.size
            have p5 : PCk W5 b 4096 l := CAt.keepB p4 g
            clear g p4 B4 n4
            have HL5 := Lib.hid L5
            clear L5
            go_wp2_with fail
            go_loopw [12] (fun k wk => ∃ i : Nat, 1 ≤ i ∧ (i ≤ l.length ∨ i = 1) ∧ k = .int .i64 (i : Int) ∧ Drew W5 wk) (fun k _ => l.length - (intOf k).toNat)
            case atStart => exact ⟨1, Nat.le_refl _, .inr rfl, rfl, 0, rfl⟩
            case round =>
              obtain ⟨i, hi1, hi2, rfl, hd⟩ := hrel
              by_cases hil : i < l.length
              · obtain ⟨nn, rfl⟩ := hd
                obtain ⟨pp, oo, rfl, hpp, r0, r1⟩ := HL5.out.1.at_ i hil
                obtain ⟨pp', oo', he, _, s0, s1⟩ := HL5.out.1.at_ (i - 1) (by omega)
                cases he
                have r0 : (W5.drewN nn).cell? _ = _ := r0
                have s0 : (W5.drewN nn).cell? _ = _ := s0
                have hd : Drew W5 (W5.drewN nn) := ⟨nn, rfl⟩
                have hlt := HR4.out (i - 1) i (by omega) hil
                obtain ⟨i', hi'⟩ : ∃ i', i - 1 = i' := ⟨_, rfl⟩
                rw [hi'] at s0 hlt
                have hw : IntKind.i64.wrap ((i : Int) - 1) = (i' : Int) := by rw [IntWalk.i64_in _ ⟨by omega, by omega⟩]; omega
                have hi0 : (0 : Int) ≤ (i' : Int) := by omega
                have hi00 : (i' : Int) < (l.length : Int) := by omega
                have hi01 : (0 : Int) ≤ (i : Int) := by omega
                have hi02 : (i : Int) < (l.length : Int) := by omega
                have hdec : decide (tOf l i ≤ tOf l i') = false := by rw [decide_eq_false_iff_not]; omega
                clear hi' r1 s1
                generalize W5.drewN nn = W6 at *
                generalize tOf l i = t2 at *
                generalize tOf l i' = t1 at *
                go_wp2_with fail
                go_quiet (fail)
                go_wp2
                go_roundw
                case rel => exact ⟨i + 1, by omega, by omega, by go_num, by obtain ⟨m, rfl⟩ := hd; exact ⟨m + nq, by rw [World.drewN_drewN]⟩⟩
                case measure => simp [intOf]; omega
              · have g := hd.gb none
                have B6 := bel_gbn B5 (Nat.le_of_lt n5) g
                have n6 := Nat.lt_of_lt_of_le n5 g.size
                have p6 : PCk _ b 4096 l := CAt.keepN p5 g
                clear g hd B5 n5 p5
                go_wp2
                go_roundw
                case rel => exact ⟨j + 1, l, vv, rr, by omega, by omega, by go_num, rfl, rfl, p6, HR4.out, by omega, HG4, B6, n6⟩
                case measure => simp [intOf]; omega
      · subst hK
        have HR4 := Lib.hid (dropL_rising HR.out T V)
        have hl4 : (dropL z T V).length ≤ j := by have := dropL_length z T V; omega
        rcases (show rr = false ∨ (rr = true ∧ t < T) ∨ (rr = true ∧ ¬ t < T ∧ V < t) ∨ (rr = true ∧ ¬ t < T ∧ ¬ V < t) by cases rr <;> simp <;> omega) with hrr | ⟨hrr, h1⟩ | ⟨hrr, h1, h2⟩ | ⟨hrr, h1, h2⟩
        · subst hrr
          have HG4 := Lib.hid (show getL (dropL z T V) t = gotIs false vv from by
            by_cases hd : t < T ∨ V < t
            · rw [getL_drop HR.out T V t hd]; exact HG.out
            · exact getL_dropped HR.out T V t hd)
          go_wp2_with fail
          generalize wr.alloc (.cells #[.int .i64 1, .int .i64 T, .int .i64 V, .int .i64 P] 33) = W2 at *
          generalize wr.heap.size = kx at *
          have y0 : W2.cell? ⟨kx, 0, none⟩ = some (.int .i64 1) := by rw [cell_of HO.out]; rfl
          have y1 : W2.cell? ⟨kx, 1, none⟩ = some (.int .i64 T) := by rw [cell_of HO.out]; rfl
          have y2 : W2.cell? ⟨kx, 2, none⟩ = some (.int .i64 V) := by rw [cell_of HO.out]; rfl

          go_wp2_with fail
          refine (drop_ok b 4096 z T V W2 p1 (by omega) HR.out (by omega)).mono ?_
          rintro e W4 ⟨rfl, p4, g⟩
          have B4 := bel_gb B2 (by omega) (Nat.le_refl b) g
          have n4 : b < W4.heap.size := Nat.lt_of_lt_of_le (Nat.lt_of_lt_of_le n1 (Nat.le_of_lt n2)) g.size
          have HO4 := Lib.hid ((g.block kx n2 (by simp; omega)).trans HO.out)
          clear g y0 y1 y2 p1 B2 HO

          have y0 : W4.cell? ⟨kx, 0, none⟩ = some (.int .i64 1) := by rw [cell_of HO4.out]; rfl
          have y1 : W4.cell? ⟨kx, 1, none⟩ = some (.int .i64 T) := by rw [cell_of HO4.out]; rfl
          have y2 : W4.cell? ⟨kx, 2, none⟩ = some (.int .i64 V) := by rw [cell_of HO4.out]; rfl
          generalize dropL z T V = l at *
          go_wp2_with fail
          refine (all_ok b 4096 l W4 p4 (by omega) (by omega)).mono ?_
          rintro e W5 ⟨a5, c5, rfl, L5, g⟩
          have B5 := bel_gbn B4 (Nat.le_of_lt n4) (gb_below g)
          have n5 := Nat.lt_of_lt_of_le n4 g.size
          have p5 : PCk W5 b 4096 l := CAt.keepB p4 g
          clear g p4 B4 n4
          have HL5 := Lib.hid L5
          clear L5
          go_wp2_with fail
          go_loopw [12] (fun k wk => ∃ i : Nat, 1 ≤ i ∧ (i ≤ l.length ∨ i = 1) ∧ k = .int .i64 (i : Int) ∧ Drew W5 wk) (fun k _ => l.length - (intOf k).toNat)
          case atStart => exact ⟨1, Nat.le_refl _, .inr rfl, rfl, 0, rfl⟩
          case round =>
            obtain ⟨i, hi1, hi2, rfl, hd⟩ := hrel
            by_cases hil : i < l.length
            · obtain ⟨nn, rfl⟩ := hd
              obtain ⟨pp, oo, rfl, hpp, r0, r1⟩ := HL5.out.1.at_ i hil
              obtain ⟨pp', oo', he, _, s0, s1⟩ := HL5.out.1.at_ (i - 1) (by omega)
              cases he
              have r0 : (W5.drewN nn).cell? _ = _ := r0
              have s0 : (W5.drewN nn).cell? _ = _ := s0
              have hd : Drew W5 (W5.drewN nn) := ⟨nn, rfl⟩
              have hlt := HR4.out (i - 1) i (by omega) hil
              obtain ⟨i', hi'⟩ : ∃ i', i - 1 = i' := ⟨_, rfl⟩
              rw [hi'] at s0 hlt
              have hw : IntKind.i64.wrap ((i : Int) - 1) = (i' : Int) := by rw [IntWalk.i64_in _ ⟨by omega, by omega⟩]; omega
              have hi0 : (0 : Int) ≤ (i' : Int) := by omega
              have hi00 : (i' : Int) < (l.length : Int) := by omega
              have hi01 : (0 : Int) ≤ (i : Int) := by omega
              have hi02 : (i : Int) < (l.length : Int) := by omega
              have hdec : decide (tOf l i ≤ tOf l i') = false := by rw [decide_eq_false_iff_not]; omega
              clear hi' r1 s1
              generalize W5.drewN nn = W6 at *
              generalize tOf l i = t2 at *
              generalize tOf l i' = t1 at *
              go_wp2_with fail
              go_quiet (fail)
              go_wp2
              go_roundw
              case rel => exact ⟨i + 1, by omega, by omega, by go_num, by obtain ⟨m, rfl⟩ := hd; exact ⟨m + nq, by rw [World.drewN_drewN]⟩⟩
              case measure => simp [intOf]; omega
            · have g := hd.gb none
              have B6 := bel_gbn B5 (Nat.le_of_lt n5) g
              have n6 := Nat.lt_of_lt_of_le n5 g.size
              have p6 : PCk _ b 4096 l := CAt.keepN p5 g
              clear g hd B5 n5 p5
              go_wp2
              go_roundw
              case rel => exact ⟨j + 1, l, vv, false, by omega, by omega, by go_num, rfl, rfl, p6, HR4.out, by omega, HG4, B6, n6⟩
              case measure => simp [intOf]; omega
        · subst hrr
          have HG4 := Lib.hid (show getL (dropL z T V) t = gotIs true vv from by rw [getL_drop HR.out T V t (.inl h1)]; exact HG.out)
          go_wp2_with fail
          generalize wr.alloc (.cells #[.int .i64 1, .int .i64 T, .int .i64 V, .int .i64 P] 33) = W2 at *
          generalize wr.heap.size = kx at *
          have y0 : W2.cell? ⟨kx, 0, none⟩ = some (.int .i64 1) := by rw [cell_of HO.out]; rfl
          have y1 : W2.cell? ⟨kx, 1, none⟩ = some (.int .i64 T) := by rw [cell_of HO.out]; rfl
          have y2 : W2.cell? ⟨kx, 2, none⟩ = some (.int .i64 V) := by rw [cell_of HO.out]; rfl

          go_wp2_with fail
          refine (drop_ok b 4096 z T V W2 p1 (by omega) HR.out (by omega)).mono ?_
          rintro e W4 ⟨rfl, p4, g⟩
          have B4 := bel_gb B2 (by omega) (Nat.le_refl b) g
          have n4 : b < W4.heap.size := Nat.lt_of_lt_of_le (Nat.lt_of_lt_of_le n1 (Nat.le_of_lt n2)) g.size
          have HO4 := Lib.hid ((g.block kx n2 (by simp; omega)).trans HO.out)
          clear g y0 y1 y2 p1 B2 HO

          have y0 : W4.cell? ⟨kx, 0, none⟩ = some (.int .i64 1) := by rw [cell_of HO4.out]; rfl
          have y1 : W4.cell? ⟨kx, 1, none⟩ = some (.int .i64 T) := by rw [cell_of HO4.out]; rfl
          have y2 : W4.cell? ⟨kx, 2, none⟩ = some (.int .i64 V) := by rw [cell_of HO4.out]; rfl
          generalize dropL z T V = l at *
          go_wp2_with fail
          refine (all_ok b 4096 l W4 p4 (by omega) (by omega)).mono ?_
          rintro e W5 ⟨a5, c5, rfl, L5, g⟩
          have B5 := bel_gbn B4 (Nat.le_of_lt n4) (gb_below g)
          have n5 := Nat.lt_of_lt_of_le n4 g.size
          have p5 : PCk W5 b 4096 l := CAt.keepB p4 g
          clear g p4 B4 n4
          have HL5 := Lib.hid L5
          clear L5
          go_wp2_with fail
          go_loopw [12] (fun k wk => ∃ i : Nat, 1 ≤ i ∧ (i ≤ l.length ∨ i = 1) ∧ k = .int .i64 (i : Int) ∧ Drew W5 wk) (fun k _ => l.length - (intOf k).toNat)
          case atStart => exact ⟨1, Nat.le_refl _, .inr rfl, rfl, 0, rfl⟩
          case round =>
            obtain ⟨i, hi1, hi2, rfl, hd⟩ := hrel
            by_cases hil : i < l.length
            · obtain ⟨nn, rfl⟩ := hd
              obtain ⟨pp, oo, rfl, hpp, r0, r1⟩ := HL5.out.1.at_ i hil
              obtain ⟨pp', oo', he, _, s0, s1⟩ := HL5.out.1.at_ (i - 1) (by omega)
              cases he
              have r0 : (W5.drewN nn).cell? _ = _ := r0
              have s0 : (W5.drewN nn).cell? _ = _ := s0
              have hd : Drew W5 (W5.drewN nn) := ⟨nn, rfl⟩
              have hlt := HR4.out (i - 1) i (by omega) hil
              obtain ⟨i', hi'⟩ : ∃ i', i - 1 = i' := ⟨_, rfl⟩
              rw [hi'] at s0 hlt
              have hw : IntKind.i64.wrap ((i : Int) - 1) = (i' : Int) := by rw [IntWalk.i64_in _ ⟨by omega, by omega⟩]; omega
              have hi0 : (0 : Int) ≤ (i' : Int) := by omega
              have hi00 : (i' : Int) < (l.length : Int) := by omega
              have hi01 : (0 : Int) ≤ (i : Int) := by omega
              have hi02 : (i : Int) < (l.length : Int) := by omega
              have hdec : decide (tOf l i ≤ tOf l i') = false := by rw [decide_eq_false_iff_not]; omega
              clear hi' r1 s1
              generalize W5.drewN nn = W6 at *
              generalize tOf l i = t2 at *
              generalize tOf l i' = t1 at *
              go_wp2_with fail
              go_quiet (fail)
              go_wp2
              go_roundw
              case rel => exact ⟨i + 1, by omega, by omega, by go_num, by obtain ⟨m, rfl⟩ := hd; exact ⟨m + nq, by rw [World.drewN_drewN]⟩⟩
              case measure => simp [intOf]; omega
            · have g := hd.gb none
              have B6 := bel_gbn B5 (Nat.le_of_lt n5) g
              have n6 := Nat.lt_of_lt_of_le n5 g.size
              have p6 : PCk _ b 4096 l := CAt.keepN p5 g
              clear g hd B5 n5 p5
              go_wp2
              go_roundw
              case rel => exact ⟨j + 1, l, vv, true, by omega, by omega, by go_num, rfl, rfl, p6, HR4.out, by omega, HG4, B6, n6⟩
              case measure => simp [intOf]; omega
        · subst hrr
          have HG4 := Lib.hid (show getL (dropL z T V) t = gotIs true vv from by rw [getL_drop HR.out T V t (.inr h2)]; exact HG.out)
          go_wp2_with fail
          generalize wr.alloc (.cells #[.int .i64 1, .int .i64 T, .int .i64 V, .int .i64 P] 33) = W2 at *
          generalize wr.heap.size = kx at *
          have y0 : W2.cell? ⟨kx, 0, none⟩ = some (.int .i64 1) := by rw [cell_of HO.out]; rfl
          have y1 : W2.cell? ⟨kx, 1, none⟩ = some (.int .i64 T) := by rw [cell_of HO.out]; rfl
          have y2 : W2.cell? ⟨kx, 2, none⟩ = some (.int .i64 V) := by rw [cell_of HO.out]; rfl

          go_wp2_with fail
          refine (drop_ok b 4096 z T V W2 p1 (by omega) HR.out (by omega)).mono ?_
          rintro e W4 ⟨rfl, p4, g⟩
          have B4 := bel_gb B2 (by omega) (Nat.le_refl b) g
          have n4 : b < W4.heap.size := Nat.lt_of_lt_of_le (Nat.lt_of_lt_of_le n1 (Nat.le_of_lt n2)) g.size
          have HO4 := Lib.hid ((g.block kx n2 (by simp; omega)).trans HO.out)
          clear g y0 y1 y2 p1 B2 HO

          have y0 : W4.cell? ⟨kx, 0, none⟩ = some (.int .i64 1) := by rw [cell_of HO4.out]; rfl
          have y1 : W4.cell? ⟨kx, 1, none⟩ = some (.int .i64 T) := by rw [cell_of HO4.out]; rfl
          have y2 : W4.cell? ⟨kx, 2, none⟩ = some (.int .i64 V) := by rw [cell_of HO4.out]; rfl
          generalize dropL z T V = l at *
          go_wp2_with fail
          refine (all_ok b 4096 l W4 p4 (by omega) (by omega)).mono ?_
          rintro e W5 ⟨a5, c5, rfl, L5, g⟩
          have B5 := bel_gbn B4 (Nat.le_of_lt n4) (gb_below g)
          have n5 := Nat.lt_of_lt_of_le n4 g.size
          have p5 : PCk W5 b 4096 l := CAt.keepB p4 g
          clear g p4 B4 n4
          have HL5 := Lib.hid L5
          clear L5
          go_wp2_with fail
          go_loopw [12] (fun k wk => ∃ i : Nat, 1 ≤ i ∧ (i ≤ l.length ∨ i = 1) ∧ k = .int .i64 (i : Int) ∧ Drew W5 wk) (fun k _ => l.length - (intOf k).toNat)
          case atStart => exact ⟨1, Nat.le_refl _, .inr rfl, rfl, 0, rfl⟩
          case round =>
            obtain ⟨i, hi1, hi2, rfl, hd⟩ := hrel
            by_cases hil : i < l.length
            · obtain ⟨nn, rfl⟩ := hd
              obtain ⟨pp, oo, rfl, hpp, r0, r1⟩ := HL5.out.1.at_ i hil
              obtain ⟨pp', oo', he, _, s0, s1⟩ := HL5.out.1.at_ (i - 1) (by omega)
              cases he
              have r0 : (W5.drewN nn).cell? _ = _ := r0
              have s0 : (W5.drewN nn).cell? _ = _ := s0
              have hd : Drew W5 (W5.drewN nn) := ⟨nn, rfl⟩
              have hlt := HR4.out (i - 1) i (by omega) hil
              obtain ⟨i', hi'⟩ : ∃ i', i - 1 = i' := ⟨_, rfl⟩
              rw [hi'] at s0 hlt
              have hw : IntKind.i64.wrap ((i : Int) - 1) = (i' : Int) := by rw [IntWalk.i64_in _ ⟨by omega, by omega⟩]; omega
              have hi0 : (0 : Int) ≤ (i' : Int) := by omega
              have hi00 : (i' : Int) < (l.length : Int) := by omega
              have hi01 : (0 : Int) ≤ (i : Int) := by omega
              have hi02 : (i : Int) < (l.length : Int) := by omega
              have hdec : decide (tOf l i ≤ tOf l i') = false := by rw [decide_eq_false_iff_not]; omega
              clear hi' r1 s1
              generalize W5.drewN nn = W6 at *
              generalize tOf l i = t2 at *
              generalize tOf l i' = t1 at *
              go_wp2_with fail
              go_quiet (fail)
              go_wp2
              go_roundw
              case rel => exact ⟨i + 1, by omega, by omega, by go_num, by obtain ⟨m, rfl⟩ := hd; exact ⟨m + nq, by rw [World.drewN_drewN]⟩⟩
              case measure => simp [intOf]; omega
            · have g := hd.gb none
              have B6 := bel_gbn B5 (Nat.le_of_lt n5) g
              have n6 := Nat.lt_of_lt_of_le n5 g.size
              have p6 : PCk _ b 4096 l := CAt.keepN p5 g
              clear g hd B5 n5 p5
              go_wp2
              go_roundw
              case rel => exact ⟨j + 1, l, vv, true, by omega, by omega, by go_num, rfl, rfl, p6, HR4.out, by omega, HG4, B6, n6⟩
              case measure => simp [intOf]; omega
        · subst hrr
          have HG4 := Lib.hid (show getL (dropL z T V) t = gotIs false vv from getL_dropped HR.out T V t (by omega))
          have hd1 : decide (t < T) = false := decide_eq_false h1
          have hd2 : decide (V < t) = false := decide_eq_false h2
          go_wp2_with fail
          generalize wr.alloc (.cells #[.int .i64 1, .int .i64 T, .int .i64 V, .int .i64 P] 33) = W2 at *
          generalize wr.heap.size = kx at *
          have y0 : W2.cell? ⟨kx, 0, none⟩ = some (.int .i64 1) := by rw [cell_of HO.out]; rfl
          have y1 : W2.cell? ⟨kx, 1, none⟩ = some (.int .i64 T) := by rw [cell_of HO.out]; rfl
          have y2 : W2.cell? ⟨kx, 2, none⟩ = some (.int .i64 V) := by rw [cell_of HO.out]; rfl

          go_wp2_with fail
          refine (drop_ok b 4096 z T V W2 p1 (by omega) HR.out (by omega)).mono ?_
          rintro e W4 ⟨rfl, p4, g⟩
          have B4 := bel_gb B2 (by omega) (Nat.le_refl b) g
          have n4 : b < W4.heap.size := Nat.lt_of_lt_of_le (Nat.lt_of_lt_of_le n1 (Nat.le_of_lt n2)) g.size
          have HO4 := Lib.hid ((g.block kx n2 (by simp; omega)).trans HO.out)
          clear g y0 y1 y2 p1 B2 HO

          have y0 : W4.cell? ⟨kx, 0, none⟩ = some (.int .i64 1) := by rw [cell_of HO4.out]; rfl
          have y1 : W4.cell? ⟨kx, 1, none⟩ = some (.int .i64 T) := by rw [cell_of HO4.out]; rfl
          have y2 : W4.cell? ⟨kx, 2, none⟩ = some (.int .i64 V) := by rw [cell_of HO4.out]; rfl
          generalize dropL z T V = l at *
          go_wp2_with fail
          refine (all_ok b 4096 l W4 p4 (by omega) (by omega)).mono ?_
          rintro e W5 ⟨a5, c5, rfl, L5, g⟩
          have B5 := bel_gbn B4 (Nat.le_of_lt n4) (gb_below g)
          have n5 := Nat.lt_of_lt_of_le n4 g.size
          have p5 : PCk W5 b 4096 l := CAt.keepB p4 g
          clear g p4 B4 n4
          have HL5 := Lib.hid L5
          clear L5
          go_wp2_with fail
          go_loopw [12] (fun k wk => ∃ i : Nat, 1 ≤ i ∧ (i ≤ l.length ∨ i = 1) ∧ k = .int .i64 (i : Int) ∧ Drew W5 wk) (fun k _ => l.length - (intOf k).toNat)
          case atStart => exact ⟨1, Nat.le_refl _, .inr rfl, rfl, 0, rfl⟩
          case round =>
            obtain ⟨i, hi1, hi2, rfl, hd⟩ := hrel
            by_cases hil : i < l.length
            · obtain ⟨nn, rfl⟩ := hd
              obtain ⟨pp, oo, rfl, hpp, r0, r1⟩ := HL5.out.1.at_ i hil
              obtain ⟨pp', oo', he, _, s0, s1⟩ := HL5.out.1.at_ (i - 1) (by omega)
              cases he
              have r0 : (W5.drewN nn).cell? _ = _ := r0
              have s0 : (W5.drewN nn).cell? _ = _ := s0
              have hd : Drew W5 (W5.drewN nn) := ⟨nn, rfl⟩
              have hlt := HR4.out (i - 1) i (by omega) hil
              obtain ⟨i', hi'⟩ : ∃ i', i - 1 = i' := ⟨_, rfl⟩
              rw [hi'] at s0 hlt
              have hw : IntKind.i64.wrap ((i : Int) - 1) = (i' : Int) := by rw [IntWalk.i64_in _ ⟨by omega, by omega⟩]; omega
              have hi0 : (0 : Int) ≤ (i' : Int) := by omega
              have hi00 : (i' : Int) < (l.length : Int) := by omega
              have hi01 : (0 : Int) ≤ (i : Int) := by omega
              have hi02 : (i : Int) < (l.length : Int) := by omega
              have hdec : decide (tOf l i ≤ tOf l i') = false := by rw [decide_eq_false_iff_not]; omega
              clear hi' r1 s1
              generalize W5.drewN nn = W6 at *
              generalize tOf l i = t2 at *
              generalize tOf l i' = t1 at *
              go_wp2_with fail
              go_quiet (fail)
              go_wp2
              go_roundw
              case rel => exact ⟨i + 1, by omega, by omega, by go_num, by obtain ⟨m, rfl⟩ := hd; exact ⟨m + nq, by rw [World.drewN_drewN]⟩⟩
              case measure => simp [intOf]; omega
            · have g := hd.gb none
              have B6 := bel_gbn B5 (Nat.le_of_lt n5) g
              have n6 := Nat.lt_of_lt_of_le n5 g.size
              have p6 : PCk _ b 4096 l := CAt.keepN p5 g
              clear g hd B5 n5 p5
              go_wp2
              go_roundw
              case rel => exact ⟨j + 1, l, vv, false, by omega, by omega, by go_num, rfl, rfl, p6, HR4.out, by omega, HG4, B6, n6⟩
              case measure => simp [intOf]; omega
      · have hq0 : (K == 0) = false := by rw [beq_eq_false_iff_ne]; exact hK0
        have hq1 : (K == 1) = false := by rw [beq_eq_false_iff_ne]; exact hK1
        have HR4 := HR
        have HG4 := HG
        clear hK0 hK1
        go_wp2_with fail
        generalize wr.alloc (.cells #[.int .i64 K, .int .i64 T, .int .i64 V, .int .i64 P] 33) = W2 at *
        generalize wr.heap.size = kx at *
        have y0 : W2.cell? ⟨kx, 0, none⟩ = some (.int .i64 K) := by rw [cell_of HO.out]; rfl
        have y1 : W2.cell? ⟨kx, 1, none⟩ = some (.int .i64 T) := by rw [cell_of HO.out]; rfl
        have y2 : W2.cell? ⟨kx, 2, none⟩ = some (.int .i64 V) := by rw [cell_of HO.out]; rfl
        have p4 := p1
        have B4 := B2
        have n4 : b < W2.heap.size := by omega
        clear p1 B2
        go_wp2_with fail
        generalize W2 = W4 at *
        refine (all_ok b 4096 z W4 p4 (by omega) (by omega)).mono ?_
        rintro e W5 ⟨a5, c5, rfl, L5, g⟩
        have B5 := bel_gbn B4 (Nat.le_of_lt n4) (gb_below g)
        have n5 := Nat.lt_of_lt_of_le n4 g.size
        have p5 : PCk W5 b 4096 z := CAt.keepB p4 g
        clear g p4 B4 n4
        have HL5 := Lib.hid L5
        clear L5
        go_wp2_with fail
        go_loopw [12] (fun k wk => ∃ i : Nat, 1 ≤ i ∧ (i ≤ z.length ∨ i = 1) ∧ k = .int .i64 (i : Int) ∧ Drew W5 wk) (fun k _ => z.length - (intOf k).toNat)
        case atStart => exact ⟨1, Nat.le_refl _, .inr rfl, rfl, 0, rfl⟩
        case round =>
          obtain ⟨i, hi1, hi2, rfl, hd⟩ := hrel
          by_cases hil : i < z.length
          · obtain ⟨nn, rfl⟩ := hd
            obtain ⟨pp, oo, rfl, hpp, r0, r1⟩ := HL5.out.1.at_ i hil
            obtain ⟨pp', oo', he, _, s0, s1⟩ := HL5.out.1.at_ (i - 1) (by omega)
            cases he
            have r0 : (W5.drewN nn).cell? _ = _ := r0
            have s0 : (W5.drewN nn).cell? _ = _ := s0
            have hd : Drew W5 (W5.drewN nn) := ⟨nn, rfl⟩
            have hlt := HR4.out (i - 1) i (by omega) hil
            obtain ⟨i', hi'⟩ : ∃ i', i - 1 = i' := ⟨_, rfl⟩
            rw [hi'] at s0 hlt
            have hw : IntKind.i64.wrap ((i : Int) - 1) = (i' : Int) := by rw [IntWalk.i64_in _ ⟨by omega, by omega⟩]; omega
            have hi0 : (0 : Int) ≤ (i' : Int) := by omega
            have hi00 : (i' : Int) < (z.length : Int) := by omega
            have hi01 : (0 : Int) ≤ (i : Int) := by omega
            have hi02 : (i : Int) < (z.length : Int) := by omega
            have hdec : decide (tOf z i ≤ tOf z i') = false := by rw [decide_eq_false_iff_not]; omega
            clear hi' r1 s1
            generalize W5.drewN nn = W6 at *
            generalize tOf z i = t2 at *
            generalize tOf z i' = t1 at *
            go_wp2_with fail
            go_quiet (fail)
            go_wp2
            go_roundw
            case rel => exact ⟨i + 1, by omega, by omega, by go_num, by obtain ⟨m, rfl⟩ := hd; exact ⟨m + nq, by rw [World.drewN_drewN]⟩⟩
            case measure => simp [intOf]; omega
          · have g := hd.gb none
            have B6 := bel_gbn B5 (Nat.le_of_lt n5) g
            have n6 := Nat.lt_of_lt_of_le n5 g.size
            have p6 : PCk _ b 4096 z := CAt.keepN p5 g
            clear g hd B5 n5 p5
            go_wp2
            go_roundw
            case rel => exact ⟨j + 1, z, vv, rr, by omega, by omega, by go_num, rfl, rfl, p6, HR4.out, by omega, HG4, B6, n6⟩
            case measure => simp [intOf]; omega
    · have hexit : ¬ j < len ∨ (j < len ∧ ¬ j < 60) := by omega
      clear hjl
      cases rr
      all_goals
        rcases hexit with h1 | ⟨h1, h2⟩
        all_goals
          go_wp2_with fail
          refine (get_at b 4096 z t _ _ wr HG.out hp (by omega) hr (by omega)).mono ?_
          rintro e W8 ⟨rfl, b8⟩
          have B8 := bel_gbn B1 (Nat.le_of_lt n1) (gb_below b8)
          have n8 := Nat.lt_of_lt_of_le n1 b8.size
          have hvv : (vv == vv) = true := by simp
          clear b8 hp hr
          go_wp2_with fail
          refine (cknown_any _).mono ?_
          rintro e W9 ⟨rfl, b9⟩
          have B9 := bel_gbn B8 (Nat.le_of_lt n8) (gb_below b9)
          clear b9
          go_wp2
          go_ret
          exact ⟨rfl, by rw [HBW.out]; exact B9⟩

set_option maxRecDepth 100000 in
theorem lifted (os : Os) (started : os.Started) (H : Type) (enc : TypeId × Value → H) :
    ReturnsInHanded {} Try.checked os 4 .any (Rows.chunkRisesSpec.pre6 enc Try.prog Try.f4 Rows.chunkRisesRow.domain false) (Rows.chunkRisesSpec.post enc Try.prog Try.f4 false true false false) := by
  refine returnsInHanded_of_change (C := Try.checked) own started (by kernel_rfl) Try.func4
    (ChangeSpec.witness6 (enc := enc) (C := Try.checked) false ⟨#[], #[.slice none 0 0, .int .i64 0], []⟩ 8 (by kernel_rfl) (by kernel_rfl) (by kernel_rfl) (by kernel_rfl)) ?_
  intro W base args ds gs before hval0 hW hcnd _
  have hval : ∀ (j : Nat) t v, Try.f4.params[j]? = some t → args[j]? = some v → Value.okWide Try.prog W .any base t v := hval0
  have hW' := hW
  obtain ⟨p, q, hA0, hV, rfl, hfz, hnd⟩ := hW
  have hA : DataW.TrodAll enc Try.prog W 0 (fun _ => true) true Try.f4.params.toList args.toList ds p := hA0
  rw [Try.params4] at hA hval
  obtain ⟨v0, vs0, d0, ds0, p0, q0, hargs, rfl, rfl, h0, r0⟩ := trodAll_cons hA
  obtain ⟨v1, vs1, d1, ds1, p1, q1, rfl, rfl, rfl, h1, r1⟩ := trodAll_cons r0
  obtain ⟨rfl, rfl, rfl⟩ := trodAll_nil r1
  obtain rfl : args = #[v0, v1] := by cases args; simp_all
  obtain ⟨rfl, rfl⟩ := trodVars_none hV
  obtain ⟨a0, len0, cap0, rfl⟩ := okWide_slice Try.underlying22 (hval 0 22 v0 rfl rfl)
  have k0 := h0
  have lt0 : ∀ x ∈ p0, x.block < W.heap.size := by obtain ⟨m, hm⟩ := k0; exact DataW.trod_lt m _ _ _ hm
  obtain ⟨z0, w0⟩ := open_cops h0
  obtain ⟨a1, rfl, rfl, rfl, w1⟩ := open_int Try.underlying3 (hval 1 3 v1 rfl rfl) h1
  clear hA0 hval0
  refine (walk a0 len0 cap0 z0 a1 W w0 w1).mono fun e W' ⟨he, bel⟩ => ?_
  subst he
  exact ⟨_, rfl, _, _, _, [], _, [], hW', trodAll_mk1 (shut_bool Try.underlying4 _), (trodAll_cons_mk (Below.trod laidOut (by kernel_rfl) (of_decide_eq_true (by kernel_rfl)) k0 bel lt0) (trodAll_cons_mk (shut_int Try.underlying3 w1) trodAll_mk0)), rfl, bel.frame _, fun h => by cases h⟩

theorem over : Rows.chunkRisesRow.holds Try.pinned (OpenSpec.ofChange Rows.chunkRisesSpec) :=
  OpenClaim.holds_of_wide 4 Try.f4 rfl rfl rfl rfl rfl rfl rfl ⟨rfl, rfl, rfl, rfl, rfl⟩ rfl rfl rfl rfl rfl (by kernel_rfl) Try.func4 (by kernel_rfl)
    (of_decide_eq_true (by kernel_rfl)) (by unfold Func.isWrapper; first | (rw [if_pos (by decide +kernel)]; kernel_rfl) | (rw [if_neg (by decide +kernel)]; exact ⟨rfl, rfl⟩))
    (fun os started H enc _ => lifted os started H enc)

theorem proved : Rows.ChunkRisesSaid := over
end chunkRises
theorem chunkRises_holds : Rows.ChunkRisesSaid := chunkRises.proved
#print axioms chunkRises_holds
end Go.Proofs.Ytjhnajenkoepdaa
