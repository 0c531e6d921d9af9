/-
  Contracts of series.alone, series.isSmall, series.joined: a chunk of one sample; whether a chunk has less than a quarter; two small ones in one.
-/
import Derived.Test.YtpbhdlhbcfkhfaaGreatSMem
import Derived.Test.YtpbhdlhbcfkhfaaGreatCFind
namespace Go.Proofs.YtpbhdlhbcfkhfaaGreat
open Go.RowKit
set_option linter.unusedVariables false
set_option linter.unusedSimpArgs false

/-- A new chunk. -/
def MadeP (sz : Int) (z : List (Int × Int)) (w : World) (e : Ending) (w' : World) : Prop := ∃ o, e = .returned (.pointer (some ⟨o, 0, none⟩)) ∧ w.heap.size ≤ o ∧ PCk w' o sz z ∧ Below w.heap.size w w'

theorem put_alone {sz : Int} (hs : 128 ≤ sz) (T V : Int) (h0 : 0 ≤ T) (h1 : T < 1099511627776) : putL sz [] T V 0 = (0, [(T, V)]) :=
  putL_took sz [] T V 0 V [(T, V)] (by omega) (by simp [newV, bef, upt, cnt]) (by simp [insL, bef, upt, cnt]) (by simp; omega)

set_option maxHeartbeats 400000 in
theorem alone_any (sz T V : Int) (w : World) (hs : 128 ≤ sz) (hs2 : sz ≤ 4096) (h0 : 0 ≤ T) (h1 : T < 1099511627776) (hV : in64 V) :
    Calls Tryz.prog 49 #[.int .i64 sz, .agg #[.int .i64 T, .int .i64 V]] w (MadeP sz [(T, V)] w) := by
  have B0 := (Below.refl w.heap.size w).alloc (Nat.le_refl _) (.cells #[.int .i64 T, .int .i64 V] 33)
  have hn := heap_new w (.cells #[.int .i64 T, .int .i64 V] 33)
  have s0 : (w.alloc (.cells #[.int .i64 T, .int .i64 V] 33)).heap.size = w.heap.size + 1 := by simp
  go_enter Tryz.func49, Tryz.ntmps49
  go_wp2_with fail
  generalize w.alloc (.cells #[.int .i64 T, .int .i64 V] 33) = W0 at *
  refine (cnew_at sz W0 hs hs2).mono ?_
  rintro e W1 ⟨rfl, p1, b1', s1⟩
  have c0 : W1.cell? ⟨w.heap.size, 0, none⟩ = some (.int .i64 T) := by rw [b1'.cell (by simp; omega), cell_of hn]; rfl
  have c1 : W1.cell? ⟨w.heap.size, 1, none⟩ = some (.int .i64 V) := by rw [b1'.cell (by simp; omega), cell_of hn]; rfl
  have b1 := B0.trans (b1'.mono (by omega))
  rw [s0] at p1 s1 ⊢
  clear B0 b1' hn s0
  obtain ⟨q, hq⟩ : ∃ q, w.heap.size + 1 = q := ⟨_, rfl⟩
  rw [hq] at p1 ⊢
  have HQ := Lib.hid hq
  clear hq
  go_wp2_with fail
  refine (put_at q sz [] T V 0 0 [(T, V)] _ (put_alone hs T V h0 h1) p1 (by omega) hs2 rising_nil (by simp) ⟨by omega, by omega⟩ hV).mono ?_
  rintro e W2 ⟨rfl, p2, g2⟩
  have B2 := bel_gb b1 b1.size (by have := HQ.out; omega) g2
  clear b1 g2 p1 s1 c0 c1
  go_wp2
  go_ret
  exact ⟨q, rfl, by have := HQ.out; omega, p2, B2⟩

set_option maxHeartbeats 400000 in
theorem isSmall_any (b : Nat) (sz : Int) (z : List (Int × Int)) (w : World) (h : PCk w b sz z) (hs : 1 ≤ sz) (hz : z.length ≤ 1048576) :
    Calls Tryz.prog 79 #[.pointer (some ⟨b, 0, none⟩)] w (BoolP (decide (Small sz z)) w) := by
  have HK := Lib.hid h
  have hu : usedL z ≤ 17825792 := by have := bitsZ_le z; unfold usedL; omega
  have HD : Hid (∀ r : Bool, (r = true ↔ 4 * (usedL z : Int) < sz) → r = decide (Small sz z)) := Lib.hid (fun r hr => by
    cases r with
    | true => exact (decide_eq_true (hr.1 rfl)).symm
    | false => exact (decide_eq_false (fun e => by have := hr.2 e; cases this)).symm)
  clear h
  go_enter Tryz.func79, Tryz.ntmps79
  go_wp2_with fail
  refine (used_ok b sz z _ HK.out hs hz).mono ?_
  rintro e W1 ⟨rfl, b1⟩
  have k1 := CAt.keepB HK.out b1
  generalize usedL z = u at *
  go_wp2_with fail
  refine (size_ok b sz z _ k1).mono ?_
  rintro e W2 ⟨rfl, rfl⟩
  clear k1 HK
  go_wp2
  go_ret
  exact ⟨ret_bool (HD.out _ (by simp)), b1⟩

set_option maxHeartbeats 400000 in
theorem joined_any (b c : Nat) (sz : Int) (x y : List (Int × Int)) (w : World) (hx : PCk w b sz x) (hy : PCk w c sz y) (hs : 128 ≤ sz) (hs2 : sz ≤ 4096) (hn : x.length + y.length ≤ 1048576) (hr : Rising (x ++ y)) (hf : Fit sz (x ++ y)) :
    Calls Tryz.prog 80 #[.pointer (some ⟨b, 0, none⟩), .pointer (some ⟨c, 0, none⟩)] w (MadeP sz (x ++ y) w) := by
  have HX := Lib.hid hx
  have HY := Lib.hid hy
  have hm : meetB x y = false := by
    cases h : meetB x y with
    | false => rfl
    | true =>
      exfalso
      obtain ⟨h1, h2, h3⟩ := (meetB_iff x y).1 h
      obtain ⟨a, ha, ea⟩ := tOf_mem (z := x) (i := x.length - 1) (by omega)
      obtain ⟨b, hb, eb⟩ := tOf_mem (z := y) (i := 0) h2
      have := rising_cross hr a ha b hb
      omega
  have hE : joinE sz x y = 0 := by
    unfold joinE tookE
    unfold Fit at hf
    rw [hm, if_neg (by simp), if_neg (by omega)]
  have HL := Lib.hid (show joinL sz x y = x ++ y from by unfold joinL; rw [if_pos hE])
  clear hx hy
  go_enter Tryz.func80, Tryz.ntmps80
  go_wp2_with fail
  refine (copy_ok b sz x _ HX.out (by omega) (by omega)).mono ?_
  rintro e W1 ⟨o1, rfl, s1, p1, b1⟩
  have y1 := CAt.keepB HY.out b1
  go_wp2_with fail
  refine (copy_ok c sz y _ y1 (by omega) (by omega)).mono ?_
  rintro e W2 ⟨o2, rfl, s2, p2, b2⟩
  have p3 := CAt.keepB p1 b2
  have hne : o1 ≠ o2 := by have := p1.lt; omega
  have B2 := b1.trans (b2.mono b1.size)
  have hsz := b2.size
  have hsz1 := b1.size
  clear p1 y1 b2 b1
  go_wp2_with fail
  refine (join_ok o1 o2 sz sz x y _ p3 p2 hne (by omega) hs2 (by omega) hn).mono ?_
  rintro e W3 ⟨rfl, p4, p5, t3⟩
  have B3 := bel_two B2 (by omega) s1 (by omega) t3
  rw [HL.out] at p4
  generalize joinE sz x y = je at *
  clear p5 t3 B2 p2 p3
  go_wp2
  go_ret
  exact ⟨o1, rfl, s1, p4, B3⟩

end Go.Proofs.YtpbhdlhbcfkhfaaGreat
