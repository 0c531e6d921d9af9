/-
  Contracts.
-/
import Derived.Test.YtmifpfojhlmbkaaGreatJ22
import Derived.Test.YtmifpfojhlmbkaaGreatJ23
import Derived.Test.YtmifpfojhlmbkaaGreatJ25
import Derived.Test.YtmifpfojhlmbkaaGreatJ40
namespace Go.Proofs.YtmifpfojhlmbkaaGreat
set_option maxRecDepth 100000
set_option maxHeartbeats 16000000
open Go.RowKit
set_option linter.unusedVariables false
set_option linter.unusedSimpArgs false
def NumsP (l : List Int) (w : World) (e : Ending) (w' : World) : Prop := ∃ v, e = .returned v ∧ IRow w' w.heap.size v l ∧ Below w.heap.size w w'
theorem irow_one (w : World) (x : Int) : IRow (w.alloc (.cells #[.int .i64 x] 3)) w.heap.size (.slice (some ⟨w.heap.size, 0, none⟩) 1 1) [x] :=
  ⟨rfl, .inr ⟨w.heap.size, 1, #[.int .i64 x], rfl, Nat.le_refl _, heap_new w _, Nat.le_refl _, by unfold maxLen; omega, rfl, rfl⟩⟩
theorem irow_two (w : World) (x y : Int) : IRow (w.alloc (.cells #[.int .i64 x, .int .i64 y] 3)) w.heap.size (.slice (some ⟨w.heap.size, 0, none⟩) 2 2) [x, y] :=
  ⟨rfl, .inr ⟨w.heap.size, 2, #[.int .i64 x, .int .i64 y], rfl, Nat.le_refl _, heap_new w _, Nat.le_refl _, by unfold maxLen; omega, rfl, rfl⟩⟩
theorem touched_any (a t : Int) (w : World) : Calls Tryz.prog 131 #[.int .i64 a, .int .i64 t] w (NumsP (touchL a t) w) := by
  by_cases h : 0 ≤ a
  · by_cases k : a < t
    · have HE := Lib.hid (show touchL a t = [a, t] from if_pos ⟨h, k⟩)
      have HR := Lib.hid (irow_two w a t)
      have HB := Lib.hid ((Below.refl w.heap.size w).alloc (Nat.le_refl _) (.cells #[.int .i64 a, .int .i64 t] 3))
      go_enter Tryz.func131, Tryz.ntmps131
      go_wp2
      go_ret
      exact ⟨_, rfl, by rw [HE.out]; exact HR.out, HB.out⟩
    · have HE := Lib.hid (show touchL a t = [t] from if_neg (fun q => k q.2))
      have HR := Lib.hid (irow_one w t)
      have HB := Lib.hid ((Below.refl w.heap.size w).alloc (Nat.le_refl _) (.cells #[.int .i64 t] 3))
      go_enter Tryz.func131, Tryz.ntmps131
      go_wp2
      go_ret
      exact ⟨_, rfl, by rw [HE.out]; exact HR.out, HB.out⟩
  · have HE := Lib.hid (show touchL a t = [t] from if_neg (fun q => h q.1))
    have HR := Lib.hid (irow_one w t)
    have HB := Lib.hid ((Below.refl w.heap.size w).alloc (Nat.le_refl _) (.cells #[.int .i64 t] 3))
    go_enter Tryz.func131, Tryz.ntmps131
    go_wp2
    go_ret
    exact ⟨_, rfl, by rw [HE.out]; exact HR.out, HB.out⟩
theorem times_any (a : Option Addr) (n c : Nat) (z : List (Int × Int)) (w : World) (h : Lst w a n c z) (hn : n ≤ 1000000) : Calls Tryz.prog 76 #[.slice a n c] w (NumsP (timesL z) w) := by
  have HL := Lib.hid h.len
  have H := Lib.hid h
  clear h
  go_enter Tryz.func76, Tryz.ntmps76
  go_wp2_with fail
  go_loopw [3, 8] (fun v i wr => ∃ j : Nat, j ≤ n ∧ i = .int .i64 (j : Int) ∧ Hid (IRow wr w.heap.size v (timesL (z.take j))) ∧ Below w.heap.size w wr) (fun _ i _ => n - (intOf i).toNat)
  case atStart => exact ⟨0, Nat.zero_le _, rfl, Lib.hid (IRow.nil _ _), Below.refl _ _⟩
  case round =>
    obtain ⟨j, hj, rfl, R, B⟩ := hrel
    have s2 := B.size
    by_cases hjn : j < n
    · obtain ⟨pb, po, rfl, hpb, x0, x1⟩ := (H.out.keepB B).1.at_ j hjn
      have HS := Lib.hid (show timesL (z.take (j + 1)) = timesL (z.take j) ++ [tOf z j] from by
        have hjz : j < z.length := by rw [HL.out]; exact hjn
        unfold timesL
        rw [List.take_succ_eq_append_getElem hjz, List.map_append]
        congr 1
        unfold tOf; rw [List.getD_eq_getElem?_getD, List.getElem?_eq_getElem hjz]; rfl)
      have hlen : (timesL (z.take j)).length ≤ 1048576 := by unfold timesL; rw [List.length_map, List.length_take]; omega
      have hj0 : (0 : Int) ≤ (j : Int) := by omega
      have hj1 : (j : Int) < (n : Int) := by omega
      generalize timesL (z.take j) = ns at *
      generalize tOf z j = T at *
      generalize vOf z j = V at *
      have B3 := B.alloc s2 (.cells #[.int .i64 T, .int .i64 V] 27)
      have hs3 : (wr.alloc (.cells #[.int .i64 T, .int .i64 V] 27)).heap.size = wr.heap.size + 1 := by simp
      have B4 := B3.alloc B3.size (.cells #[.int .i64 T] 3)
      have r4 := Lib.hid ((R.out.keepN (World.grownBy_alloc wr (.cells #[.int .i64 T, .int .i64 V] 27) none)).keepN (World.grownBy_alloc _ (.cells #[.int .i64 T] 3) none))
      have n4 : ((wr.alloc (.cells #[.int .i64 T, .int .i64 V] 27)).alloc (.cells #[.int .i64 T] 3)).cell? ⟨wr.heap.size + 1, 0, none⟩ = some (.int .i64 T) := by rw [← hs3, cell_of (heap_new _ _)]; rfl
      have HB4 := Lib.hid B4
      have N4 := Lib.hid n4
      clear B3 B4 R n4
      go_wp2_with (at_builtin; (refine wpList_append_int ?_ (.tmp 12) (.tmp 15) rfl w.heap.size _ ns rfl r4.out (wr.heap.size + 1) 1 T rfl N4.out hlen HB4.out.size ?_))
      intro v5 W5 r5 g5
      have B5 := r4.out.bel HB4.out HB4.out.size (Nat.le_refl _) g5
      have HR5 := Lib.hid r5
      clear r4 HB4 N4 r5 g5 x0 x1
      go_wp2
      go_roundw
      case rel => exact ⟨j + 1, by omega, by go_num, by rw [HS.out]; exact HR5, B5⟩
      case measure => simp [intOf]; omega
    · obtain rfl : n = j := by omega
      have HT := Lib.hid (show z.take n = z from List.take_of_length_le (by rw [HL.out]; exact Nat.le_refl _))
      rw [HT.out] at R
      go_wp2
      go_ret
      exact ⟨_, rfl, R.out, B⟩
theorem ends_any (a : Option Addr) (n c : Nat) (l : List Int) (x : Int) (w : World) (h : Nums w a n c l) : Calls Tryz.prog 270 #[.slice a n c, .int .i64 x] w fun e w' => e = .returned (.bool (decide (l.getLast? = some x))) ∧ w = w' := by
  have hl := h.len
  by_cases h0 : n = 0
  · subst h0
    have e0 : l = [] := List.eq_nil_of_length_eq_zero hl
    subst e0
    have hz : decide ((0 : Int) < ((0 : Nat) : Int)) = false := by decide
    have hz' : ((0 : Nat) : Int) = 0 := rfl
    clear h
    go_enter Tryz.func270, Tryz.ntmps270
    go_wp2
    go_ret
    exact ⟨rfl, rfl⟩
  · obtain ⟨pb, po, rfl, hpb, x0⟩ := h.at_ (n - 1) (by omega)
    obtain ⟨k, hk⟩ : ∃ k, n - 1 = k := ⟨_, rfl⟩
    rw [hk] at x0
    have hd : decide ((0 : Int) < (n : Int)) = true := decide_eq_true (by omega)
    have hd2 : (0 : Int) < (n : Int) := by omega
    have hw : (n : Int) - 1 = (k : Int) := by omega
    have hmx := h.1.2.2.1
    have hwk : wrap64 (k : Int) = (k : Int) := by unfold wrap64; omega
    clear hmx
    have hw2 : (k : Int) < (n : Int) := by omega
    have hw3 : (0 : Int) ≤ (k : Int) := by omega
    have HE := Lib.hid (show decide (l.getLast? = some x) = decide (l.getD k 0 = x) from by
      refine decide_eq_decide.2 ?_
      rw [List.getLast?_eq_getElem?, hl, hk, List.getD_eq_getElem?_getD, List.getElem?_eq_getElem (by omega)]
      simp)
    rw [HE.out]
    generalize l.getD k 0 = y at *
    have HB := Lib.hid (show (y == x) = decide (y = x) from by by_cases q : y = x <;> simp [q])
    clear h hl hk HE h0
    go_enter Tryz.func270, Tryz.ntmps270
    go_wp2
    go_ret
    exact ⟨ret_bool (by first | exact HB.out | simp), rfl⟩
theorem irow_mono {w : World} {base base' : Nat} {v : Value} {l : List Int} (h : IRow w base v l) (hb : base' ≤ base) : IRow w base' v l := by
  refine ⟨h.1, ?_⟩
  rcases h.2 with e | ⟨g, cap, cur, rfl, hbg, r⟩
  · exact .inl e
  · exact .inr ⟨g, cap, cur, rfl, by omega, r⟩
theorem BoxU.cells {w : World} {B : Nat} {r : Ru} (h : BoxU 32 w B r) : w.cell? ⟨B, 3, none⟩ = some (.int .i64 r.size) ∧ w.cell? ⟨B, 4, none⟩ = some (.int .i64 r.align) := ⟨h.x3, h.x4⟩
theorem closed_any (r : Ru) (mx : Int) (a : Option Addr) (n c : Nat) (ts : List Int) (w : World) (h : Nums w a n c ts) (hn : n ≤ 1000000) (h64 : ∀ t ∈ ts, 0 ≤ t ∧ t < 1099511627776) :
    Calls Tryz.prog 216 #[ruV r, .int .i64 mx, .slice a n c] w (NumsP (startsL r mx ts) w) := by
  have HL := Lib.hid h.len
  have B1 := (Below.refl w.heap.size w).alloc (Nat.le_refl _) (.cells #[.string (bs r.src), .string (bs r.dst), .int .i64 r.kind, .int .i64 r.size, .int .i64 r.align] 32)
  have X1 := BoxU.new 32 w r
  have H1 := Lib.hid (h.keep B1)
  have HB1 := Lib.hid B1
  have y3 := X1.x3
  have y4 := X1.x4
  have HX := Lib.hid X1
  have hin : ∀ t, in64 (startB t r.size r.align) := fun t => by
    have := startB_in (t := t) (size := r.size) (align := r.align)
    unfold in64; omega
  have HIN := Lib.hid hin
  have HST := Lib.hid (show ∀ o t, stepB r mx o t = if decide (endB (startB t r.size r.align) r.size r.align ≤ startB mx r.size r.align) = true ∧ decide (o.getLast? = some (startB t r.size r.align)) = false then o ++ [startB t r.size r.align] else o from fun o t => by
    unfold stepB clo
    by_cases k1 : endB (startB t r.size r.align) r.size r.align ≤ startB mx r.size r.align
    · by_cases k2 : o.getLast? = some (startB t r.size r.align) <;> simp [k1, k2]
    · simp [k1])
  have HE0 := Lib.hid (show ∀ j, (ts.take j).foldl (stepB r mx) [] = startsL r mx (ts.take j) from fun _ => rfl)
  have HS0 := Lib.hid (fun (W : World) => start_any mx r.size r.align W)
  have HS1 := Lib.hid (fun (t : Int) (W : World) => start_any t r.size r.align W)
  have HN1 := Lib.hid (fun (b : Int) (W : World) => end_any b r.size r.align W)
  have HU : Hid (∀ j o, startsL r mx (ts.take j) = o → ∀ b ∈ o, in64 b) := Lib.hid (fun j o e b hb => by
    subst e
    obtain ⟨t, _, e, _⟩ := mem_starts.1 hb
    rw [← e]; exact HIN.out t)
  have HLN : Hid (∀ j, (startsL r mx (ts.take j)).length ≤ n) := Lib.hid (fun j => by
    have h1 := starts_len r mx (ts.take j)
    rw [List.length_take, HL.out] at h1; omega)
  unfold ruV
  clear h B1 X1 h64 hin
  generalize startB mx r.size r.align = op at *
  go_enter Tryz.func216, Tryz.ntmps216
  go_wp2_with fail
  refine (HS0.out _).mono ?_
  rintro e w' ⟨rfl, rfl⟩
  generalize hBB : w.heap.size = B0 at *
  generalize hW1 : w.alloc (.cells #[.string (bs r.src), .string (bs r.dst), .int .i64 r.kind, .int .i64 r.size, .int .i64 r.align] 32) = W1 at *
  have hB0 : B0 < W1.heap.size := HX.out.lt
  have HBB := Lib.hid hBB
  clear y3 y4 hW1 hBB
  go_wp2_with fail
  go_loopw [8, 20] (fun v i wr => ∃ j : Nat, j ≤ n ∧ i = .int .i64 (j : Int) ∧ Hid (IRow wr W1.heap.size v (startsL r mx (ts.take j))) ∧ Below W1.heap.size W1 wr) (fun _ i _ => n - (intOf i).toNat)
  case atStart => exact ⟨0, Nat.zero_le _, rfl, Lib.hid (IRow.nil _ _), Below.refl _ _⟩
  case round =>
    obtain ⟨j, hj, rfl, R, B⟩ := hrel
    have s2 := B.size
    by_cases hjn : j < n
    · obtain ⟨pb, po, rfl, hpb, x0⟩ := (H1.out.keep B).at_ j hjn
      have X := HX.out.keep B
      have y3 := X.x3
      have y4 := X.x4
      clear X
      obtain ⟨an, cn, rfl, hNu⟩ := Nums.of R.out (HU.out j _ rfl)
      have HNu := Lib.hid hNu
      clear hNu
      have hlen := HLN.out j
      have HS := Lib.hid (show startsL r mx (ts.take (j + 1)) = stepB r mx (startsL r mx (ts.take j)) (ts.getD j 0) from by
        have hjz : j < ts.length := by rw [HL.out]; exact hjn
        unfold startsL
        rw [List.take_succ_eq_append_getElem hjz, List.foldl_append, List.getD_eq_getElem?_getD, List.getElem?_eq_getElem hjz]; rfl)
      rw [HST.out] at HS
      have hj0 : (0 : Int) ≤ (j : Int) := by omega
      have hj1 : (j : Int) < (n : Int) := by omega
      have HT1 := Lib.hid (HS1.out (ts.getD j 0))
      have HT2 := Lib.hid (HN1.out (startB (ts.getD j 0) r.size r.align))
      have HT3 := Lib.hid (fun W (k : Nums W an (startsL r mx (ts.take j)).length cn (startsL r mx (ts.take j))) => ends_any an _ cn _ (startB (ts.getD j 0) r.size r.align) W k)
      generalize startsL r mx (ts.take j) = o at *
      generalize ts.getD j 0 = t at *
      generalize startB t r.size r.align = b at *
      generalize endB b r.size r.align = eb at *
      by_cases k1 : eb ≤ op
      · have d1 : decide (eb ≤ op) = true := decide_eq_true k1
        by_cases k2 : o.getLast? = some b
        · have d2 : decide (o.getLast? = some b) = true := decide_eq_true k2
          rw [d2] at HT3
          rw [d2, if_neg (by simp)] at HS
          clear k2 d2
          generalize o.length = no at *
          go_wp2_with fail
          refine (HT1.out _).mono ?_
          rintro e w' ⟨rfl, rfl⟩
          go_wp2_with fail
          refine (HT2.out _).mono ?_
          rintro e w' ⟨rfl, rfl⟩
          go_wp2_with fail
          refine (HT3.out _ HNu.out).mono ?_
          rintro e w' ⟨rfl, rfl⟩
          go_wp2
          go_roundw
          case rel => exact ⟨j + 1, by omega, by go_num, by rw [HS.out]; exact R, B⟩
          case measure => simp [intOf]; omega
        · have d2 : decide (o.getLast? = some b) = false := decide_eq_false k2
          rw [d2] at HT3
          rw [d1, d2, if_pos ⟨rfl, rfl⟩] at HS
          clear k2 d2
          have B4 := B.alloc B.size (.cells #[.int .i64 b] 3)
          have r4 := Lib.hid (R.out.keepN (World.grownBy_alloc wr (.cells #[.int .i64 b] 3) none))
          have n4 : (wr.alloc (.cells #[.int .i64 b] 3)).cell? ⟨wr.heap.size, 0, none⟩ = some (.int .i64 b) := by rw [cell_of (heap_new _ _)]; rfl
          have HB4 := Lib.hid B4
          have N4 := Lib.hid n4
          have hol : o.length ≤ 1048576 := by omega
          have HO : Hid (∀ q : List Int, q = o → q.length ≤ 1048576) := Lib.hid (fun q e => by subst e; exact hol)
          clear B4 R n4 hol hlen
          generalize o.length = no at *
          go_wp2_with fail
          refine (HT1.out _).mono ?_
          rintro e w' ⟨rfl, rfl⟩
          go_wp2_with fail
          refine (HT2.out _).mono ?_
          rintro e w' ⟨rfl, rfl⟩
          go_wp2_with fail
          refine (HT3.out _ HNu.out).mono ?_
          rintro e w' ⟨rfl, rfl⟩
          go_wp2_with (at_builtin; (refine wpList_append_int ?_ (.tmp 44) (.tmp 46) rfl W1.heap.size _ o rfl r4.out wr.heap.size 1 b rfl N4.out (HO.out o rfl) HB4.out.size ?_))
          intro v5 W5 r5 g5
          have B5 := r4.out.bel HB4.out HB4.out.size (Nat.le_refl _) g5
          have HR5 := Lib.hid r5
          clear r4 HB4 N4 r5 g5 x0
          go_wp2
          go_roundw
          case rel => exact ⟨j + 1, by omega, by go_num, by rw [HS.out]; exact HR5, B5⟩
          case measure => simp [intOf]; omega
      · have d1 : decide (eb ≤ op) = false := decide_eq_false k1
        rw [d1, if_neg (by simp)] at HS
        generalize o.length = no at *
        go_wp2_with fail
        refine (HT1.out _).mono ?_
        rintro e w' ⟨rfl, rfl⟩
        go_wp2_with fail
        refine (HT2.out _).mono ?_
        rintro e w' ⟨rfl, rfl⟩
        go_wp2
        go_roundw
        case rel => exact ⟨j + 1, by omega, by go_num, by rw [HS.out]; exact R, B⟩
        case measure => simp [intOf]; omega
    · obtain rfl : n = j := by omega
      have HT := Lib.hid (show ts.take n = ts from List.take_of_length_le (by rw [HL.out]; exact Nat.le_refl _))
      rw [HT.out] at R
      have HF := Lib.hid (show Below B0 w wr from HB1.out.trans (B.mono (Nat.le_of_lt hB0)))
      go_wp2
      go_ret
      exact ⟨_, rfl, irow_mono R.out (by rw [HBB.out]; omega), by rw [HBB.out]; exact HF.out⟩
end Go.Proofs.YtmifpfojhlmbkaaGreat
namespace Go.Proofs.YtmifpfojhlmbkaaGreat
set_option maxRecDepth 100000
set_option maxHeartbeats 16000000
open Go.RowKit
set_option linter.unusedVariables false
set_option linter.unusedSimpArgs false
def LayP (d : Nat) (sz : Int) (s' : Ser) (w : World) (e : Ending) (w' : World) : Prop := e = .returned (.tuple #[]) ∧ SerAt w' d sz s' ∧ w.grownBy w' (some d)
theorem lay_any (kb db : Nat) (kind : Int) (d : Nat) (sz : Int) (ds : Ser) (b : Int) (a : Option Addr) (n c : Nat) (z : List (Int × Int)) (w : World) (h1 : w.cell? ⟨kb, 0, none⟩ = some (.int .i64 kind)) (h2 : w.cell? ⟨db, 0, none⟩ = some (.pointer (some ⟨d, 0, none⟩)))
    (h : SerAt w d sz ds) (hS : Std ds) (hs : 128 ≤ sz) (hs2 : sz ≤ 4096) (hn : ds.z.length ≤ 80000) (hz : Lst w a n c z) (hl : n ≤ 1000000) :
    Calls Tryz.prog 218 #[.int .i64 b, .slice a n c, .pointer (some ⟨kb, 0, none⟩), .pointer (some ⟨db, 0, none⟩)] w (LayP d sz (layS ds b (isK kind (valsOf z)) (valK kind (valsOf z))) w) := by
  have hv : in64 (valK kind (valsOf z)) := by
    by_cases e : valsOf z = []
    · rw [e, valK_nil]; unfold in64; omega
    · exact valK_in e (vals64 hz.all64) (by rw [valsOf_len, hz.len]; omega)
  have HF := Lib.hid (fold_any kind a n c z w hz.1 (by omega))
  have HS := Lib.hid h
  have HSt := Lib.hid hS
  have hrise := Lib.hid hS.rise
  unfold FoldP tell at HF
  have hkl : kb < w.heap.size := World.block_lt_of_cell? w ⟨kb, 0, none⟩ h1
  have hdl : db < w.heap.size := World.block_lt_of_cell? w ⟨db, 0, none⟩ h2
  clear h hS hz
  generalize valK kind (valsOf z) = v at *
  generalize isK kind (valsOf z) = is at *
  cases is with
  | false =>
    go_enter Tryz.func218, Tryz.ntmps218
    go_wp2_with fail
    refine HF.out.mono ?_
    rintro e w1 ⟨rfl, b1⟩
    have S1 := Lib.hid (HS.out.keepB b1)
    have B1 := Lib.hid b1
    have y2 := (b1.cell (p := ⟨db, 0, none⟩) hdl).trans h2
    clear b1 h1 h2
    go_wp2_with fail
    refine (del_any d sz ds b b w1 S1.out hs hs2 hrise.out (by omega)).mono ?_
    rintro e w2 ⟨rfl, s2, g2⟩
    have S2 := Lib.hid s2
    have G2 := Lib.hid (gb_trans (gb_below (row := some d) B1.out) g2)
    clear s2 g2 y2
    go_wp2
    go_end0
    exact ⟨rfl, S2.out, G2.out⟩
  | true =>
    go_enter Tryz.func218, Tryz.ntmps218
    go_wp2_with fail
    refine HF.out.mono ?_
    rintro e w1 ⟨rfl, b1⟩
    have S1 := Lib.hid (HS.out.keepB b1)
    have B1 := Lib.hid b1
    have y2 := (b1.cell (p := ⟨db, 0, none⟩) hdl).trans h2
    clear b1 h1 h2
    go_wp2_with fail
    refine (add_ser d sz ds b v 3 w1 S1.out HSt.out hs hs2 (by omega) hv).mono ?_
    rintro e w2 ⟨rfl, s2, g2⟩
    have S2 := Lib.hid s2
    have G2 := Lib.hid (gb_trans (gb_below (row := some d) B1.out) g2)
    clear s2 g2 y2
    go_wp2
    go_end0
    exact ⟨rfl, S2.out, G2.out⟩
theorem mid_bk {r : Ru} {ss : Ser} {b0 el b : Int} (h0 : b0 ≤ b) (h1 : endB b r.size r.align ≤ el) : (ss.z.filter (inB b0 (el - 1))).filter (inB b (endB b r.size r.align - 1)) = inBk r ss b := by
  unfold inBk
  rw [List.filter_filter]
  refine List.filter_congr fun x _ => ?_
  unfold inB
  by_cases k1 : b ≤ x.1 <;> by_cases k2 : x.1 ≤ endB b r.size r.align - 1 <;> simp [k1, k2] <;> omega
structure Stl (r : Ru) (l : List Int) : Prop where
  up : l.Pairwise (· ≤ ·)
  in_ : ∀ b ∈ l, 0 ≤ b ∧ b < 1099511627776 ∧ startB b r.size r.align = b
theorem endB_mono {r : Ru} (hr : rightB r.size r.align) {b c : Int} (h0 : 0 ≤ b ∧ b < 1099511627776) (h1 : 0 ≤ c ∧ c < 1099511627776) (hb : startB b r.size r.align = b) (hc : startB c r.size r.align = c) (h : b ≤ c) : endB b r.size r.align ≤ endB c r.size r.align := by
  have e1 := endB_is hr h0.1 (show b ≤ 1099511627776 by omega)
  have e2 := endB_is hr h1.1 (show c ≤ 1099511627776 by omega)
  refine Classical.byContradiction fun k => ?_
  have := (same_bucket hr h0.1 (by omega) h1.1 (by omega)).2 ⟨by omega, by omega⟩
  rw [hb, hc] at this
  subst this
  omega
theorem endB_in {r : Ru} (hr : rightB r.size r.align) {b : Int} (h0 : 0 ≤ b ∧ b < 1099511627776) : b < endB b r.size r.align ∧ endB b r.size r.align ≤ 2199023255552 := by
  have e1 := endB_is hr h0.1 (show b ≤ 1099511627776 by omega)
  have e2 := startB_range hr h0.1 (show b ≤ 1099511627776 by omega)
  have := hr.1.2
  omega
end Go.Proofs.YtmifpfojhlmbkaaGreat
