/-
  Contract of the statements' own 'build' of layer 4: whatever is put and dropped, a chunk of rising times comes of it.
-/
import Derived.Test.YtjhnajenkoepdaaCKnown
import Derived.Test.YtjhnajenkoepdaaCOps
namespace Go.Proofs.Ytjhnajenkoepdaa
open Go.RowKit
set_option linter.unusedVariables false
set_option linter.unusedSimpArgs false

def BuildP (b : Nat) (sz : Int) (n : Nat) (w : World) (e : Ending) (w' : World) : Prop :=
  e = .returned (.tuple #[]) ∧ ∃ z, PCk w' b sz z ∧ Rising z ∧ z.length ≤ n ∧ w.grownBy w' (some b)

theorem OpsC.keep {w w' : World} {a : Option Addr} {len : Nat} {z : List Cl} (h : OpsC w a len z) (hb : Below w.heap.size w w') : OpsC w' a len z := by
  obtain ⟨h1, h2, h3, h4⟩ := h
  refine ⟨h1, h2, h3, ?_⟩
  rcases h4 with h0 | ⟨b, off, rfl, hlt, hc⟩
  · exact .inl h0
  · refine .inr ⟨b, off, rfl, Nat.lt_of_lt_of_le hlt hb.size, fun i hi => ?_⟩
    rw [hb.cell hlt, hb.cell hlt, hb.cell hlt, hb.cell hlt]; exact hc i hi

set_option maxRecDepth 100000 in
set_option maxHeartbeats 8000000 in
theorem build_any (b : Nat) (sz : Int) (a : Option Addr) (len cap B : Nat) (zz : List Cl) (w0 w : World) (hz : OpsC w0 a len zz) (hB : w0.heap.size = B) (hBb : B ≤ b) (hw : Below B w0 w) (hs : 1 ≤ sz) (hs2 : sz ≤ 4096) (hp : PCk w b sz []) :
    Calls Try.prog 27 #[.pointer (some ⟨b, 0, none⟩), .slice a len cap] w (BuildP b sz 100 w) := by
  have hlen := hz.2.1
  have HZ := Lib.hid hz
  have HB := Lib.hid hB
  have hbw := hp.lt
  clear hz hB
  go_enter Try.func27, Try.ntmps27
  go_wp2_with fail
  go_loopw [4] (fun i wr => ∃ (j : Nat) (z : List (Int × Int)), j ≤ len ∧ j ≤ 100 ∧ i = .int .i64 (j : Int) ∧ PCk wr b sz z ∧ Rising z ∧ z.length ≤ j ∧ w.grownBy wr (some b)) (fun i _ => len - (intOf i).toNat)
  case atStart => exact ⟨0, [], Nat.zero_le _, Nat.zero_le _, rfl, hp, rising_nil, Nat.le_refl _, gb_refl _ _⟩
  case round =>
    obtain ⟨j, z, hj, hj2, rfl, p1, hr, hzl, G1⟩ := hrel
    by_cases hjl : j < len ∧ j < 100
    · obtain ⟨hjl, hjh⟩ := hjl
      have B1 := bel_gb hw (by omega) hBb G1
      obtain ⟨q, o, rfl, hq, x0, x1, x2, x3, h64⟩ := HZ.out.at_ j hjl
      rw [HB.out] at hq
      rw [← B1.cell hq] at x0 x1 x2 x3
      have hqw : q < wr.heap.size := by have := G1.size; omega
      generalize opOf zz j = op at *
      obtain ⟨K, T, V, P⟩ := op
      replace x0 : wr.cell? ⟨q, o + j * 4, none⟩ = some (.int .i64 K) := x0
      replace x1 : wr.cell? ⟨q, o + j * 4 + 1, none⟩ = some (.int .i64 T) := x1
      replace x2 : wr.cell? ⟨q, o + j * 4 + 2, none⟩ = some (.int .i64 V) := x2
      replace x3 : wr.cell? ⟨q, o + j * 4 + 3, none⟩ = some (.int .i64 P) := x3
      have h64T : in64 T := h64.2.1
      have h64V : in64 V := h64.2.2.1
      have HR := Lib.hid hr
      have hj0 : (0 : Int) ≤ (j : Int) := by omega
      have hj1 : (j : Int) < (len : Int) := by omega
      have HPD : Hid (PCk wr.drew b sz z) := Lib.hid p1
      clear hr h64 B1
      rcases (show K = 0 ∨ K = 1 ∨ (K ≠ 0 ∧ K ≠ 1) by omega) with hK | hK | ⟨hK0, hK1⟩
      · subst hK
        go_wp2_with fail
        go_region_held3 (fun w' => w'.cell? ⟨q, o + j * 4 + 1, none⟩ = some (.int .i64 T) ∧ w'.cell? ⟨q, o + j * 4 + 2, none⟩ = some (.int .i64 V) ∧ w'.cell? ⟨q, o + j * 4 + 3, none⟩ = some (.int .i64 P))
          (first
            | exact ⟨d1.out, d2.out, d3.out⟩
            | go_keep)
          (first
            | (go_at_call 17
               (with_reducible refine (put_ok4 b sz z T V P _ HPD.out hs hs2 HR.out (by omega) h64T h64V).mono ?_)
               rintro e W6 ⟨rfl, p6, g6⟩
               have hb6 : W6.heap[q]? = wr.heap[q]? := g6.block q hqw (by simp; omega)
               have d0 := Lib.hid (show W6.cell? ⟨q, o + j * 4, none⟩ = some (.int .i64 0) from by simp only [World.cell?, hb6] at *; exact x0)
               have d1 := Lib.hid (show W6.cell? ⟨q, o + j * 4 + 1, none⟩ = some (.int .i64 T) from by simp only [World.cell?, hb6] at *; exact x1)
               have d2 := Lib.hid (show W6.cell? ⟨q, o + j * 4 + 2, none⟩ = some (.int .i64 V) from by simp only [World.cell?, hb6] at *; exact x2)
               have d3 := Lib.hid (show W6.cell? ⟨q, o + j * 4 + 3, none⟩ = some (.int .i64 P) from by simp only [World.cell?, hb6] at *; exact x3)
               clear hb6))
        have e0 := d0.out
        have hr6 := Lib.hid (putL_rising HR.out sz T V P)
        have hl6 := putL_length HR.out sz T V P
        have G6 := gb_trans G1 (gb_trans (Drew.gb (w := wr) (w' := wr.drew) ⟨1, rfl⟩ (some b)) g6)
        have P6 := Lib.hid p6
        clear d0 d1 d2 d3 x0 x1 x2 x3 g6 G1 p6 p1 HPD
        generalize (putL sz z T V P).2 = l at *
        generalize (putL sz z T V P).1 = er at *
        go_wp2
        go_roundw
        case rel => exact ⟨j + 1, l, by omega, by omega, by go_num, P6.out, hr6.out, by omega, G6⟩
        case measure => simp [intOf]; omega
      · subst hK
        go_wp2_with fail
        go_region_held3 (fun w' => w'.cell? ⟨q, o + j * 4 + 1, none⟩ = some (.int .i64 T) ∧ w'.cell? ⟨q, o + j * 4 + 2, none⟩ = some (.int .i64 V))
          (first
            | exact ⟨d1.out, d2.out⟩
            | go_keep)
          (first
            | (go_at_call 14
               (with_reducible refine (drop_ok b sz z T V _ HPD.out hs HR.out (by omega)).mono ?_)
               rintro e W6 ⟨rfl, p6, g6⟩
               have hb6 : W6.heap[q]? = wr.heap[q]? := g6.block q hqw (by simp; omega)
               have d1 := Lib.hid (show W6.cell? ⟨q, o + j * 4 + 1, none⟩ = some (.int .i64 T) from by simp only [World.cell?, hb6] at *; exact x1)
               have d2 := Lib.hid (show W6.cell? ⟨q, o + j * 4 + 2, none⟩ = some (.int .i64 V) from by simp only [World.cell?, hb6] at *; exact x2)
               clear hb6))
        have hr6 := Lib.hid (dropL_rising HR.out T V)
        have hl6 := dropL_length z T V
        have G6 := gb_trans G1 (gb_trans (Drew.gb (w := wr) (w' := wr.drew) ⟨1, rfl⟩ (some b)) g6)
        have P6 := Lib.hid p6
        have hl7 : (dropL z T V).length ≤ j := by omega
        clear d1 d2 x0 x1 x2 x3 g6 G1 p6 p1 HPD hl6
        generalize dropL z T V = l at *
        go_wp2
        go_roundw
        case rel => exact ⟨j + 1, l, by omega, by omega, by go_num, P6.out, hr6.out, by omega, G6⟩
        case measure => simp [intOf]; omega
      · have hq0 : (K == 0) = false := by rw [beq_eq_false_iff_ne]; exact hK0
        have hq1 : (K == 1) = false := by rw [beq_eq_false_iff_ne]; exact hK1
        clear hK0 hK1
        go_wp2
        go_roundw
        case rel => exact ⟨j + 1, z, by omega, by omega, by go_num, p1, HR.out, by omega, G1⟩
        case measure => simp [intOf]; omega
    · have hexit : ¬ j < len ∨ (j < len ∧ ¬ j < 100) := by omega
      clear hjl
      rcases hexit with h1 | ⟨h1, h2⟩
      all_goals
        go_wp2
        go_end0
        exact ⟨rfl, z, p1, hr, by omega, G1⟩

end Go.Proofs.Ytjhnajenkoepdaa
