/-
  Contracts.
-/
import Derived.Test.YtmifpfojhlmbkaaGreatJ22
import Derived.Test.YtmifpfojhlmbkaaGreatJ23
import Derived.Test.YtmifpfojhlmbkaaGreatJ25
import Derived.Test.YtmifpfojhlmbkaaGreatJ39
import Derived.Deep.RegionHeld3
import Derived.StillTailTactics
import Derived.IntWalk
namespace Go.Proofs.YtmifpfojhlmbkaaGreat
open Lib (hid)
set_option maxRecDepth 100000
set_option maxHeartbeats 16000000
open Go.RowKit
set_option linter.unusedVariables false
set_option linter.unusedSimpArgs false
def NumsP (l : List Int) (w : World) (e : Ending) (w' : World) : Prop := ∃ v, e = .returned v ∧ IRow w' w.heap.size v l ∧ Below w.heap.size w w'
theorem irow_one (w : World) (x : Int) : IRow (w.alloc (.cells #[.int .i64 x] 3)) w.heap.size (.slice (some ⟨w.heap.size, 0, none⟩) 1 1) [x] :=
  ⟨rfl, .inr ⟨w.heap.size, 1, #[.int .i64 x], rfl, Nat.le_refl _, heap_new w _, Nat.le_refl _, by unfold maxLen; omega, rfl, rfl⟩⟩
theorem irow_two (w : World) (x y : Int) : IRow (w.alloc (.cells #[.int .i64 x, .int .i64 y] 3)) w.heap.size (.slice (some ⟨w.heap.size, 0, none⟩) 2 2) [x, y] :=
  ⟨rfl, .inr ⟨w.heap.size, 2, #[.int .i64 x, .int .i64 y], rfl, Nat.le_refl _, heap_new w _, Nat.le_refl _, by unfold maxLen; omega, rfl, rfl⟩⟩
theorem touched_any (a t : Int) (w : World) : Calls Tryz.prog 131 #[.int .i64 a, .int .i64 t] w (NumsP (touchL a t) w) := by
  by_cases h : 0 ≤ a
  · by_cases k : a < t
    · have HE := hid (show touchL a t = [a, t] from if_pos ⟨h, k⟩)
      have HR := hid (irow_two w a t)
      have HB := hid ((Below.refl w.heap.size w).alloc (Nat.le_refl _) (.cells #[.int .i64 a, .int .i64 t] 3))
      go_enter Tryz.func131, Tryz.ntmps131
      go_wp2
      go_ret
      exact ⟨_, rfl, by rw [HE.out]; exact HR.out, HB.out⟩
    · have HE := hid (show touchL a t = [t] from if_neg (fun q => k q.2))
      have HR := hid (irow_one w t)
      have HB := hid ((Below.refl w.heap.size w).alloc (Nat.le_refl _) (.cells #[.int .i64 t] 3))
      go_enter Tryz.func131, Tryz.ntmps131
      go_wp2
      go_ret
      exact ⟨_, rfl, by rw [HE.out]; exact HR.out, HB.out⟩
  · have HE := hid (show touchL a t = [t] from if_neg (fun q => h q.1))
    have HR := hid (irow_one w t)
    have HB := hid ((Below.refl w.heap.size w).alloc (Nat.le_refl _) (.cells #[.int .i64 t] 3))
    go_enter Tryz.func131, Tryz.ntmps131
    go_wp2
    go_ret
    exact ⟨_, rfl, by rw [HE.out]; exact HR.out, HB.out⟩
theorem times_any (a : Option Addr) (n c : Nat) (z : List (Int × Int)) (w : World) (h : Lst w a n c z) (hn : n ≤ 1000000) : Calls Tryz.prog 76 #[.slice a n c] w (NumsP (timesL z) w) := by
  have HL := hid h.len
  have H := hid h
  clear h
  go_enter Tryz.func76, Tryz.ntmps76
  go_wp2_with fail
  go_loopw [3, 8] (fun v i wr => ∃ j : Nat, j ≤ n ∧ i = .int .i64 (j : Int) ∧ Hid (IRow wr w.heap.size v (timesL (z.take j))) ∧ Below w.heap.size w wr) (fun _ i _ => n - (intOf i).toNat)
  case atStart => exact ⟨0, Nat.zero_le _, rfl, hid (IRow.nil _ _), Below.refl _ _⟩
  case round =>
    obtain ⟨j, hj, rfl, R, B⟩ := hrel
    have s2 := B.size
    by_cases hjn : j < n
    · obtain ⟨pb, po, rfl, hpb, x0, x1⟩ := (H.out.keepB B).1.at_ j hjn
      have HS := hid (show timesL (z.take (j + 1)) = timesL (z.take j) ++ [tOf z j] from by
        have hjz : j < z.length := by rw [HL.out]; exact hjn
        unfold timesL
        rw [List.take_succ_eq_append_getElem hjz, List.map_append]
        congr 1
        unfold tOf; rw [List.getD_eq_getElem?_getD, List.getElem?_eq_getElem hjz]; rfl)
      have hlen : (timesL (z.take j)).length ≤ 1048576 := by unfold timesL; rw [List.length_map, List.length_take]; omega
      have hj0 : (0 : Int) ≤ (j : Int) := by omega
      have hj1 : (j : Int) < (n : Int) := by omega
      generalize timesL (z.take j) = ns at *
      generalize tOf z j = T at *
      generalize vOf z j = V at *
      have B3 := B.alloc s2 (.cells #[.int .i64 T, .int .i64 V] 27)
      have hs3 : (wr.alloc (.cells #[.int .i64 T, .int .i64 V] 27)).heap.size = wr.heap.size + 1 := by simp
      have B4 := B3.alloc B3.size (.cells #[.int .i64 T] 3)
      have r4 := hid ((R.out.keepN (World.grownBy_alloc wr (.cells #[.int .i64 T, .int .i64 V] 27) none)).keepN (World.grownBy_alloc _ (.cells #[.int .i64 T] 3) none))
      have n4 : ((wr.alloc (.cells #[.int .i64 T, .int .i64 V] 27)).alloc (.cells #[.int .i64 T] 3)).cell? ⟨wr.heap.size + 1, 0, none⟩ = some (.int .i64 T) := by rw [← hs3, cell_of (heap_new _ _)]; rfl
      have HB4 := hid B4
      have N4 := hid n4
      clear B3 B4 R n4
      go_wp2_with (at_builtin; (refine wpList_append_int ?_ (.tmp 12) (.tmp 15) rfl w.heap.size _ ns rfl r4.out (wr.heap.size + 1) 1 T rfl N4.out hlen HB4.out.size ?_))
      intro v5 W5 r5 g5
      have B5 := r4.out.bel HB4.out HB4.out.size (Nat.le_refl _) g5
      have HR5 := hid r5
      clear r4 HB4 N4 r5 g5 x0 x1
      go_wp2
      go_roundw
      case rel => exact ⟨j + 1, by omega, by go_num, by rw [HS.out]; exact HR5, B5⟩
      case measure => simp [intOf]; omega
    · obtain rfl : n = j := by omega
      have HT := hid (show z.take n = z from List.take_of_length_le (by rw [HL.out]; exact Nat.le_refl _))
      rw [HT.out] at R
      go_wp2
      go_ret
      exact ⟨_, rfl, R.out, B⟩
theorem ends_any (a : Option Addr) (n c : Nat) (l : List Int) (x : Int) (w : World) (h : Nums w a n c l) : Calls Tryz.prog 270 #[.slice a n c, .int .i64 x] w fun e w' => e = .returned (.bool (decide (l.getLast? = some x))) ∧ w = w' := by
  have hl := h.len
  by_cases h0 : n = 0
  · subst h0
    have e0 : l = [] := List.eq_nil_of_length_eq_zero hl
    subst e0
    have hz : decide ((0 : Int) < ((0 : Nat) : Int)) = false := by decide
    have hz' : ((0 : Nat) : Int) = 0 := rfl
    clear h
    go_enter Tryz.func270, Tryz.ntmps270
    go_wp2
    go_ret
    exact ⟨rfl, rfl⟩
  · obtain ⟨pb, po, rfl, hpb, x0⟩ := h.at_ (n - 1) (by omega)
    obtain ⟨k, hk⟩ : ∃ k, n - 1 = k := ⟨_, rfl⟩
    rw [hk] at x0
    have hd : decide ((0 : Int) < (n : Int)) = true := decide_eq_true (by omega)
    have hd2 : (0 : Int) < (n : Int) := by omega
    have hw : (n : Int) - 1 = (k : Int) := by omega
    have hmx := h.1.2.2.1
    have hwk : wrap64 (k : Int) = (k : Int) := by unfold wrap64; omega
    clear hmx
    have hw2 : (k : Int) < (n : Int) := by omega
    have hw3 : (0 : Int) ≤ (k : Int) := by omega
    have HE := hid (show decide (l.getLast? = some x) = decide (l.getD k 0 = x) from by
      refine decide_eq_decide.2 ?_
      rw [List.getLast?_eq_getElem?, hl, hk, List.getD_eq_getElem?_getD, List.getElem?_eq_getElem (by omega)]
      simp)
    rw [HE.out]
    generalize l.getD k 0 = y at *
    have HB := hid (show (y == x) = decide (y = x) from by by_cases q : y = x <;> simp [q])
    clear h hl hk HE h0
    go_enter Tryz.func270, Tryz.ntmps270
    go_wp2
    go_ret
    exact ⟨ret_bool (by first | exact HB.out | simp), rfl⟩
theorem irow_mono {w : World} {base base' : Nat} {v : Value} {l : List Int} (h : IRow w base v l) (hb : base' ≤ base) : IRow w base' v l := by
  refine ⟨h.1, ?_⟩
  rcases h.2 with e | ⟨g, cap, cur, rfl, hbg, r⟩
  · exact .inl e
  · exact .inr ⟨g, cap, cur, rfl, by omega, r⟩
theorem closed_any (r : Ru) (mx : Int) (a : Option Addr) (n c : Nat) (ts : List Int) (w : World) (h : Nums w a n c ts) (hn : n ≤ 1000000) (h64 : ∀ t ∈ ts, 0 ≤ t ∧ t < 1099511627776) :
    Calls Tryz.prog 216 #[ruV r, .int .i64 mx, .slice a n c] w (NumsP (startsL r mx ts) w) := by
  have HL := hid h.len
  have B1 := (Below.refl w.heap.size w).alloc (Nat.le_refl _) (.cells #[.string (bs r.src), .string (bs r.dst), .int .i64 r.kind, .int .i64 r.size, .int .i64 r.align] 32)
  have X1 := BoxU.new 32 w r
  have H1 := hid (h.keep B1)
  have HB1 := hid B1
  have y3 := X1.x3
  have y4 := X1.x4
  have HX := hid X1
  have hin : ∀ t, in64 (startB t r.size r.align) := fun t => by
    have := startB_in (t := t) (size := r.size) (align := r.align)
    unfold in64; omega
  have HIN := hid hin
  have HST := hid (show ∀ o t, stepB r mx o t = if decide (endB (startB t r.size r.align) r.size r.align ≤ startB mx r.size r.align) = true ∧ decide (o.getLast? = some (startB t r.size r.align)) = false then o ++ [startB t r.size r.align] else o from fun o t => by
    unfold stepB clo
    by_cases k1 : endB (startB t r.size r.align) r.size r.align ≤ startB mx r.size r.align
    · by_cases k2 : o.getLast? = some (startB t r.size r.align) <;> simp [k1, k2]
    · simp [k1])
  have HE0 := hid (show ∀ j, (ts.take j).foldl (stepB r mx) [] = startsL r mx (ts.take j) from fun _ => rfl)
  have HS0 := hid (fun (W : World) => start_any mx r.size r.align W)
  have HS1 := hid (fun (t : Int) (W : World) => start_any t r.size r.align W)
  have HN1 := hid (fun (b : Int) (W : World) => end_any b r.size r.align W)
  have HU : Hid (∀ j o, startsL r mx (ts.take j) = o → ∀ b ∈ o, in64 b) := hid (fun j o e b hb => by
    subst e
    obtain ⟨t, _, e, _⟩ := mem_starts.1 hb
    rw [← e]; exact HIN.out t)
  have HLN : Hid (∀ j, (startsL r mx (ts.take j)).length ≤ n) := hid (fun j => by
    have h1 := starts_len r mx (ts.take j)
    rw [List.length_take, HL.out] at h1; omega)
  unfold ruV
  clear h B1 X1 h64 hin
  generalize startB mx r.size r.align = op at *
  go_enter Tryz.func216, Tryz.ntmps216
  go_wp2_with fail
  refine (HS0.out _).mono ?_
  rintro e w' ⟨rfl, rfl⟩
  generalize hBB : w.heap.size = B0 at *
  generalize hW1 : w.alloc (.cells #[.string (bs r.src), .string (bs r.dst), .int .i64 r.kind, .int .i64 r.size, .int .i64 r.align] 32) = W1 at *
  have hB0 : B0 < W1.heap.size := HX.out.lt
  have HBB := hid hBB
  clear y3 y4 hW1 hBB
  go_wp2_with fail
  go_loopw [8, 20] (fun v i wr => ∃ j : Nat, j ≤ n ∧ i = .int .i64 (j : Int) ∧ Hid (IRow wr W1.heap.size v (startsL r mx (ts.take j))) ∧ Below W1.heap.size W1 wr) (fun _ i _ => n - (intOf i).toNat)
  case atStart => exact ⟨0, Nat.zero_le _, rfl, hid (IRow.nil _ _), Below.refl _ _⟩
  case round =>
    obtain ⟨j, hj, rfl, R, B⟩ := hrel
    have s2 := B.size
    by_cases hjn : j < n
    · obtain ⟨pb, po, rfl, hpb, x0⟩ := (H1.out.keep B).at_ j hjn
      have X := HX.out.keep B
      have y3 := X.x3
      have y4 := X.x4
      clear X
      obtain ⟨an, cn, rfl, hNu⟩ := Nums.of R.out (HU.out j _ rfl)
      have HNu := hid hNu
      clear hNu
      have hlen := HLN.out j
      have HS := hid (show startsL r mx (ts.take (j + 1)) = stepB r mx (startsL r mx (ts.take j)) (ts.getD j 0) from by
        have hjz : j < ts.length := by rw [HL.out]; exact hjn
        unfold startsL
        rw [List.take_succ_eq_append_getElem hjz, List.foldl_append, List.getD_eq_getElem?_getD, List.getElem?_eq_getElem hjz]; rfl)
      rw [HST.out] at HS
      have hj0 : (0 : Int) ≤ (j : Int) := by omega
      have hj1 : (j : Int) < (n : Int) := by omega
      have HT1 := hid (HS1.out (ts.getD j 0))
      have HT2 := hid (HN1.out (startB (ts.getD j 0) r.size r.align))
      have HT3 := hid (fun W (k : Nums W an (startsL r mx (ts.take j)).length cn (startsL r mx (ts.take j))) => ends_any an _ cn _ (startB (ts.getD j 0) r.size r.align) W k)
      generalize startsL r mx (ts.take j) = o at *
      generalize ts.getD j 0 = t at *
      generalize startB t r.size r.align = b at *
      generalize endB b r.size r.align = eb at *
      by_cases k1 : eb ≤ op
      · have d1 : decide (eb ≤ op) = true := decide_eq_true k1
        by_cases k2 : o.getLast? = some b
        · have d2 : decide (o.getLast? = some b) = true := decide_eq_true k2
          rw [d2] at HT3
          rw [d2, if_neg (by simp)] at HS
          clear k2 d2
          generalize o.length = no at *
          go_wp2_with fail
          refine (HT1.out _).mono ?_
          rintro e w' ⟨rfl, rfl⟩
          go_wp2_with fail
          refine (HT2.out _).mono ?_
          rintro e w' ⟨rfl, rfl⟩
          go_wp2_with fail
          refine (HT3.out _ HNu.out).mono ?_
          rintro e w' ⟨rfl, rfl⟩
          go_wp2
          go_roundw
          case rel => exact ⟨j + 1, by omega, by go_num, by rw [HS.out]; exact R, B⟩
          case measure => simp [intOf]; omega
        · have d2 : decide (o.getLast? = some b) = false := decide_eq_false k2
          rw [d2] at HT3
          rw [d1, d2, if_pos ⟨rfl, rfl⟩] at HS
          clear k2 d2
          have B4 := B.alloc B.size (.cells #[.int .i64 b] 3)
          have r4 := hid (R.out.keepN (World.grownBy_alloc wr (.cells #[.int .i64 b] 3) none))
          have n4 : (wr.alloc (.cells #[.int .i64 b] 3)).cell? ⟨wr.heap.size, 0, none⟩ = some (.int .i64 b) := by rw [cell_of (heap_new _ _)]; rfl
          have HB4 := hid B4
          have N4 := hid n4
          have hol : o.length ≤ 1048576 := by omega
          have HO : Hid (∀ q : List Int, q = o → q.length ≤ 1048576) := hid (fun q e => by subst e; exact hol)
          clear B4 R n4 hol hlen
          generalize o.length = no at *
          go_wp2_with fail
          refine (HT1.out _).mono ?_
          rintro e w' ⟨rfl, rfl⟩
          go_wp2_with fail
          refine (HT2.out _).mono ?_
          rintro e w' ⟨rfl, rfl⟩
          go_wp2_with fail
          refine (HT3.out _ HNu.out).mono ?_
          rintro e w' ⟨rfl, rfl⟩
          go_wp2_with (at_builtin; (refine wpList_append_int ?_ (.tmp 44) (.tmp 46) rfl W1.heap.size _ o rfl r4.out wr.heap.size 1 b rfl N4.out (HO.out o rfl) HB4.out.size ?_))
          intro v5 W5 r5 g5
          have B5 := r4.out.bel HB4.out HB4.out.size (Nat.le_refl _) g5
          have HR5 := hid r5
          clear r4 HB4 N4 r5 g5 x0
          go_wp2
          go_roundw
          case rel => exact ⟨j + 1, by omega, by go_num, by rw [HS.out]; exact HR5, B5⟩
          case measure => simp [intOf]; omega
      · have d1 : decide (eb ≤ op) = false := decide_eq_false k1
        rw [d1, if_neg (by simp)] at HS
        generalize o.length = no at *
        go_wp2_with fail
        refine (HT1.out _).mono ?_
        rintro e w' ⟨rfl, rfl⟩
        go_wp2_with fail
        refine (HT2.out _).mono ?_
        rintro e w' ⟨rfl, rfl⟩
        go_wp2
        go_roundw
        case rel => exact ⟨j + 1, by omega, by go_num, by rw [HS.out]; exact R, B⟩
        case measure => simp [intOf]; omega
    · obtain rfl : n = j := by omega
      have HT := hid (show ts.take n = ts from List.take_of_length_le (by rw [HL.out]; exact Nat.le_refl _))
      rw [HT.out] at R
      have HF := hid (show Below B0 w wr from HB1.out.trans (B.mono (Nat.le_of_lt hB0)))
      go_wp2
      go_ret
      exact ⟨_, rfl, irow_mono R.out (by rw [HBB.out]; omega), by rw [HBB.out]; exact HF.out⟩
def LayP (d : Nat) (sz : Int) (s' : Ser) (w : World) (e : Ending) (w' : World) : Prop := e = .returned (.tuple #[]) ∧ SerAt w' d sz s' ∧ w.grownBy w' (some d)
theorem lay_any (kb db : Nat) (kind : Int) (d : Nat) (sz : Int) (ds : Ser) (b : Int) (a : Option Addr) (n c : Nat) (z : List (Int × Int)) (w : World) (h1 : w.cell? ⟨kb, 0, none⟩ = some (.int .i64 kind)) (h2 : w.cell? ⟨db, 0, none⟩ = some (.pointer (some ⟨d, 0, none⟩)))
    (h : SerAt w d sz ds) (hS : Std ds) (hs : 128 ≤ sz) (hs2 : sz ≤ 4096) (hn : ds.z.length ≤ 80000) (hz : Lst w a n c z) (hl : n ≤ 1000000) :
    Calls Tryz.prog 218 #[.int .i64 b, .slice a n c, .pointer (some ⟨kb, 0, none⟩), .pointer (some ⟨db, 0, none⟩)] w (LayP d sz (layS ds b (isK kind (valsOf z)) (valK kind (valsOf z))) w) := by
  have hv : in64 (valK kind (valsOf z)) := by
    by_cases e : valsOf z = []
    · rw [e, valK_nil]; unfold in64; omega
    · exact valK_in e (vals64 hz.all64) (by rw [valsOf_len, hz.len]; omega)
  have HF := hid (fold_any kind a n c z w hz.1 (by omega))
  have HS := hid h
  have HSt := hid hS
  have hrise := hid hS.rise
  unfold FoldP tell at HF
  have hkl : kb < w.heap.size := World.block_lt_of_cell? w ⟨kb, 0, none⟩ h1
  have hdl : db < w.heap.size := World.block_lt_of_cell? w ⟨db, 0, none⟩ h2
  clear h hS hz
  generalize valK kind (valsOf z) = v at *
  generalize isK kind (valsOf z) = is at *
  cases is with
  | false =>
    go_enter Tryz.func218, Tryz.ntmps218
    go_wp2_with fail
    refine HF.out.mono ?_
    rintro e w1 ⟨rfl, b1⟩
    have S1 := hid (HS.out.keepB b1)
    have B1 := hid b1
    have y2 := (b1.cell (p := ⟨db, 0, none⟩) hdl).trans h2
    clear b1 h1 h2
    go_wp2_with fail
    refine (del_any d sz ds b b w1 S1.out hs hs2 hrise.out (by omega)).mono ?_
    rintro e w2 ⟨rfl, s2, g2⟩
    have S2 := hid s2
    have G2 := hid (gb_trans (gb_below (row := some d) B1.out) g2)
    clear s2 g2 y2
    go_wp2
    go_end0
    exact ⟨rfl, S2.out, G2.out⟩
  | true =>
    go_enter Tryz.func218, Tryz.ntmps218
    go_wp2_with fail
    refine HF.out.mono ?_
    rintro e w1 ⟨rfl, b1⟩
    have S1 := hid (HS.out.keepB b1)
    have B1 := hid b1
    have y2 := (b1.cell (p := ⟨db, 0, none⟩) hdl).trans h2
    clear b1 h1 h2
    go_wp2_with fail
    refine (add_ser d sz ds b v 3 w1 S1.out HSt.out hs hs2 (by omega) hv).mono ?_
    rintro e w2 ⟨rfl, s2, g2⟩
    have S2 := hid s2
    have G2 := hid (gb_trans (gb_below (row := some d) B1.out) g2)
    clear s2 g2 y2
    go_wp2
    go_end0
    exact ⟨rfl, S2.out, G2.out⟩
theorem mid_bk {r : Ru} {ss : Ser} {b0 el b : Int} (h0 : b0 ≤ b) (h1 : endB b r.size r.align ≤ el) : (ss.z.filter (inB b0 (el - 1))).filter (inB b (endB b r.size r.align - 1)) = inBk r ss b := by
  unfold inBk
  rw [List.filter_filter]
  refine List.filter_congr fun x _ => ?_
  unfold inB
  by_cases k1 : b ≤ x.1 <;> by_cases k2 : x.1 ≤ endB b r.size r.align - 1 <;> simp [k1, k2] <;> omega
structure Stl (r : Ru) (l : List Int) : Prop where
  up : l.Pairwise (· ≤ ·)
  in_ : ∀ b ∈ l, 0 ≤ b ∧ b < 1099511627776 ∧ startB b r.size r.align = b
theorem endB_mono {r : Ru} (hr : rightB r.size r.align) {b c : Int} (h0 : 0 ≤ b ∧ b < 1099511627776) (h1 : 0 ≤ c ∧ c < 1099511627776) (hb : startB b r.size r.align = b) (hc : startB c r.size r.align = c) (h : b ≤ c) : endB b r.size r.align ≤ endB c r.size r.align := by
  have e1 := endB_is hr h0.1 (show b ≤ 1099511627776 by omega)
  have e2 := endB_is hr h1.1 (show c ≤ 1099511627776 by omega)
  refine Classical.byContradiction fun k => ?_
  have := (same_bucket hr h0.1 (by omega) h1.1 (by omega)).2 ⟨by omega, by omega⟩
  rw [hb, hc] at this
  subst this
  omega
theorem endB_in {r : Ru} (hr : rightB r.size r.align) {b : Int} (h0 : 0 ≤ b ∧ b < 1099511627776) : b < endB b r.size r.align ∧ endB b r.size r.align ≤ 2199023255552 := by
  have e1 := endB_is hr h0.1 (show b ≤ 1099511627776 by omega)
  have e2 := startB_range hr h0.1 (show b ≤ 1099511627776 by omega)
  have := hr.1.2
  omega
theorem BoxU.five {w : World} {B : Nat} {r : Ru} (h : BoxU 32 w B r) : w.cell? ⟨B, 0, none⟩ = some (.string (bs r.src)) ∧ w.cell? ⟨B, 1, none⟩ = some (.string (bs r.dst)) ∧ w.cell? ⟨B, 2, none⟩ = some (.int .i64 r.kind) ∧ w.cell? ⟨B, 3, none⟩ = some (.int .i64 r.size) ∧ w.cell? ⟨B, 4, none⟩ = some (.int .i64 r.align) := ⟨h.x0, h.x1, h.x2, h.x3, h.x4⟩
theorem closed_x (s d : Tx) (k n a : Int) (mx : Int) (pa : Option Addr) (pn pc : Nat) (ts : List Int) (w : World) (h : Nums w pa pn pc ts) (hn : pn ≤ 1000000) (h64 : ∀ t ∈ ts, 0 ≤ t ∧ t < 1099511627776) :
    Calls Tryz.prog 216 #[.agg #[.string (bs s), .string (bs d), .int .i64 k, .int .i64 n, .int .i64 a], .int .i64 mx, .slice pa pn pc] w (NumsP (startsL ⟨s, d, k, n, a⟩ mx ts) w) := closed_any ⟨s, d, k, n, a⟩ mx pa pn pc ts w h hn h64
theorem getD_mem12 {l : List Int} {i : Nat} (h : i < l.length) : l.getD i 0 ∈ l := by
  rw [List.getD_eq_getElem?_getD, List.getElem?_eq_getElem h]; exact List.getElem_mem h
theorem getD_up12 {l : List Int} (h : l.Pairwise (· ≤ ·)) {i j : Nat} (hij : i ≤ j) (hj : j < l.length) : l.getD i 0 ≤ l.getD j 0 := by
  rw [List.getD_eq_getElem?_getD, List.getD_eq_getElem?_getD, List.getElem?_eq_getElem hj, List.getElem?_eq_getElem (by omega)]
  by_cases e : i = j
  · subst e; exact Int.le_refl _
  · exact List.pairwise_iff_getElem.1 h i j (by omega) hj (by omega)
theorem each_any (r : Ru) (sb d kb db : Nat) (ssz dsz : Int) (ss ds : Ser) (pa : Option Addr) (pn pc : Nat) (ts : List Int) (w : World) (hr : rightB r.size r.align)
    (hss : SerAt w sb ssz ss) (hSs : Std ss) (hs1 : 128 ≤ ssz) (hsn : ss.z.length ≤ 40000) (hds : SerAt w d dsz ds) (hSd : Std ds) (hd1 : 128 ≤ dsz) (hd2 : dsz ≤ 4096) (hdn : ds.z.length ≤ 40000) (hne : sb ≠ d)
    (h1 : w.cell? ⟨kb, 0, none⟩ = some (.int .i64 r.kind)) (h2 : w.cell? ⟨db, 0, none⟩ = some (.pointer (some ⟨d, 0, none⟩))) (hkd : kb ≠ d) (hdd : db ≠ d)
    (h : Nums w pa pn pc ts) (hn : pn ≤ 40000) (ht : ∀ t ∈ ts, 0 ≤ t ∧ t < 1099511627776) (hup : ts.Pairwise (· ≤ ·)) :
    Calls Tryz.prog 145 #[ruV r, .pointer (some ⟨sb, 0, none⟩), .slice pa pn pc, .func (.func 218) #[] #[.pointer (some ⟨kb, 0, none⟩), .pointer (some ⟨db, 0, none⟩)]] w (LayP d dsz (remS r ss ds ts) w) := by
  have eg : ∀ args w, (callFunc 218 args).run Tryz.prog w = .ok (.enter 218 args) w := enters_of Tryz.func218 (by kernel_rfl) rfl
  have hkl : kb < w.heap.size := World.block_lt_of_cell? w ⟨kb, 0, none⟩ h1
  have hdl : db < w.heap.size := World.block_lt_of_cell? w ⟨db, 0, none⟩ h2
  have HL := hid h.len
  have B1 := (Below.refl w.heap.size w).alloc (Nat.le_refl _) (.cells #[.string (bs r.src), .string (bs r.dst), .int .i64 r.kind, .int .i64 r.size, .int .i64 r.align] 32)
  have X1 := BoxU.new 32 w r
  have N1 := hid (h.keep B1)
  have HSS := hid (hss.keepB B1)
  have HDS := hid (hds.keepB B1)
  have K1 := hid ((B1.cell (p := ⟨kb, 0, none⟩) hkl).trans h1)
  have K2 := hid ((B1.cell (p := ⟨db, 0, none⟩) hdl).trans h2)
  have HB1 := hid B1
  have HX := hid X1
  have HSb : Hid (sb < w.heap.size) := hid hss.lt
  have HDb : Hid (d < w.heap.size) := hid hds.lt
  have HR := hid hr
  have HSs := hid hSs
  have HSd := hid hSd
  have HNE := hid hne
  have HST := hid (show Stl r (startsL r ss.mx ts) from ⟨starts_up hr hup (fun t h => by have := ht t h; omega), starts_in hr ht⟩)
  have HLEN := hid (show (startsL r ss.mx ts).length ≤ 40000 from by have := starts_len r ss.mx ts; rw [HL.out] at this; omega)
  have HREM : Hid (remS r ss ds ts = (startsL r ss.mx ts).foldl (makeS r ss) ds) := hid rfl
  have HMX := hid (fun W (k : SerAt W sb ssz ss) => smax_ok sb ssz ss W k (by omega))
  have HCL := hid (fun W (k : Nums W pa pn pc ts) => closed_x r.src r.dst r.kind r.size r.align ss.mx pa pn pc ts W k (by omega) ht)
  unfold ruV
  obtain ⟨y0, y1, y2, y3, y4⟩ := HX.out.five
  clear h B1 X1 h1 h2 hss hds hr hSs hSd hne ht hup
  have HDsn := hid hdn
  have HSsn := hid hsn
  clear hdn hsn
  rw [HREM.out]
  generalize startsL r ss.mx ts = st at *
  generalize ss.mx = mx at *
  clear HREM HL
  go_enter Tryz.func145, Tryz.ntmps145
  go_wp2_with fail
  generalize hBB : w.heap.size = B0 at *
  generalize hW1 : w.alloc (.cells #[.string (bs r.src), .string (bs r.dst), .int .i64 r.kind, .int .i64 r.size, .int .i64 r.align] 32) = W1 at *
  have hB0 : B0 < W1.heap.size := HX.out.lt
  have HBB := hid hBB
  clear hW1 hBB
  go_region_held3 (fun w' => w'.cell? ⟨B0, 0, none⟩ = some (.string (bs r.src)) ∧ w'.cell? ⟨B0, 1, none⟩ = some (.string (bs r.dst)) ∧ w'.cell? ⟨B0, 2, none⟩ = some (.int .i64 r.kind) ∧ w'.cell? ⟨B0, 3, none⟩ = some (.int .i64 r.size) ∧ w'.cell? ⟨B0, 4, none⟩ = some (.int .i64 r.align))
    (first
      | exact HE2.out
      | go_keep
      | fail)
    (first
      | (go_at_call 42
         (with_reducible refine (HMX.out _ HSS.out).mono ?_)
         rintro e W' ⟨rfl, rfl⟩)
      | (go_at_call 42
         (with_reducible refine (HMX.out _ (HSS.out.keepB (Below.refl _ W1).drew)).mono ?_)
         rintro e W' ⟨rfl, rfl⟩)
      | (go_at_call 216
         (with_reducible refine (HCL.out _ (N1.out.keep (Below.refl _ W1).drew)).mono ?_)
         rintro e W2 ⟨vs, rfl, r2, b2⟩
         have HE2 := hid (HX.out.keep (show Below W1.heap.size W1 W2 from (Below.refl _ W1).drew.trans b2)).five)
      | fail)
  have B2 := (Below.refl _ W1).drew.trans b2
  have HX2 := hid (HX.out.keep B2)
  have HSS2 := hid (HSS.out.keepB B2)
  have HDS2 := hid (HDS.out.keepB B2)
  have K12 := hid ((B2.cell (p := ⟨kb, 0, none⟩) (show kb < W1.heap.size by omega)).trans K1.out)
  have K22 := hid ((B2.cell (p := ⟨db, 0, none⟩) (show db < W1.heap.size by omega)).trans K2.out)
  have HB2 := hid (show Below B0 w W2 from HB1.out.trans (B2.mono (Nat.le_of_lt hB0)))
  have hB2 : B0 < W2.heap.size := Nat.lt_of_lt_of_le hB0 B2.size
  obtain ⟨sa, sc, rfl, hNu⟩ := Nums.of r2 (fun b hb => by have := HST.out.in_ b hb; unfold in64; omega)
  have HNu := hid hNu
  clear r2 b2 HE2 HSS HDS K1 K2 HB1 HX B2 hNu HMX HCL N1 y0 y1 y2 y3 y4 hB0
  obtain ⟨nn, hnn⟩ : ∃ nn, st.length = nn := ⟨_, rfl⟩
  have HNN := hid hnn
  rw [hnn] at HNu HLEN
  rw [hnn]
  clear hnn
  by_cases h0 : nn = 0
  · have e0 : st = [] := List.eq_nil_of_length_eq_zero (by rw [HNN.out]; exact h0)
    have HF := hid (show LayP d dsz (st.foldl (makeS r ss) ds) w (.returned (.tuple #[])) W2 from ⟨rfl, by rw [e0]; exact HDS2.out, gb_below (show Below w.heap.size w W2 from by rw [HBB.out]; exact HB2.out)⟩)
    have hz : (((nn : Int)) == 0) = true := by simp; omega
    clear h0 e0
    go_wp2
    go_end0
    exact HF.out
  · have hpos : (0 : Int) < (nn : Int) := by have := h0; omega
    have hz : (((nn : Int)) == 0) = false := by simp; omega
    have h0' := hid h0
    clear h0
    obtain ⟨kk, hkk⟩ : ∃ kk, nn - 1 = kk := ⟨_, rfl⟩
    have hk1 : (nn : Int) - 1 = (kk : Int) := by have := h0'.out; omega
    have hk2 : (kk : Int) < (nn : Int) := by have := h0'.out; omega
    have hk3 : (0 : Int) ≤ (kk : Int) := by omega
    have hl40 := HLEN.out
    have HK5 := hid (show IntKind.i64.wrap (kk : Int) = (kk : Int) from IntWalk.i64_in _ ⟨by omega, by omega⟩)
    have HK4 := hid (show wrap64 (kk : Int) = (kk : Int) from by unfold wrap64; omega)
    obtain ⟨pb, po, rfl, hpb, x0⟩ := HNu.out.at_ 0 (by have := h0'.out; omega)
    obtain ⟨pb', po', e', hpb', xk⟩ := HNu.out.at_ kk (by have := h0'.out; omega)
    have e1 : pb' = pb ∧ po' = po := by simp only [Option.some.injEq, Addr.mk.injEq, and_true] at e'; exact ⟨e'.1.symm, e'.2.symm⟩
    rw [e1.1, e1.2] at xk
    clear e' e1 hpb'
    rw [Nat.add_zero] at x0
    have hin0 := HST.out.in_ (st.getD 0 0) (getD_mem12 (by rw [HNN.out]; have := h0'.out; omega))
    have hink := HST.out.in_ (st.getD kk 0) (getD_mem12 (by rw [HNN.out]; have := h0'.out; omega))
    have hen := endB_in HR.out ⟨hink.1, hink.2.1⟩
    have HE := hid (fun W => end_any (st.getD kk 0) r.size r.align W)
    have HMID := hid (show ∀ j, j < nn → st.getD 0 0 ≤ st.getD j 0 ∧ endB (st.getD j 0) r.size r.align ≤ endB (st.getD kk 0) r.size r.align from fun j hj => by
      have hjn : j < st.length := by rw [HNN.out]; exact hj
      have hj := HST.out.in_ (st.getD j 0) (getD_mem12 hjn)
      refine ⟨getD_up12 HST.out.up (Nat.zero_le _) hjn, endB_mono HR.out ⟨hj.1, hj.2.1⟩ ⟨hink.1, hink.2.1⟩ hj.2.2 hink.2.2 (getD_up12 HST.out.up (by omega) (by rw [HNN.out]; omega))⟩)
    have hel := hen.2
    have hel0 : 0 ≤ endB (st.getD kk 0) r.size r.align := by omega
    clear hin0 hink hen
    generalize st.getD 0 0 = b0 at *
    generalize st.getD kk 0 = bk at *
    generalize endB bk r.size r.align = el at *
    have HW2 := hid (show IntKind.i64.wrap (el - 1) = el - 1 from IntWalk.i64_in _ ⟨by omega, by omega⟩)
    have HW1 := hid (show wrap64 (el - 1) = el - 1 from by unfold wrap64; omega)
    have y3 := HX2.out.x3
    have y4 := HX2.out.x4
    have HRG := hid (fun W (k : SerAt W sb ssz ss) => range_ser sb ssz ss b0 (el - 1) W k hs1 HSs.out.rise (by have := HSsn.out; omega))
    have hk5 := HK5.out
    have hw2 := HW2.out
    have hposN : 0 < nn := by have := h0'.out; omega
    go_wp2_with fail
    go_region_held3 (fun w' => w'.cell? ⟨pb, po, none⟩ = some (.int .i64 b0) ∧ w'.cell? ⟨pb, po + kk, none⟩ = some (.int .i64 bk) ∧ w'.cell? ⟨B0, 3, none⟩ = some (.int .i64 r.size) ∧ w'.cell? ⟨B0, 4, none⟩ = some (.int .i64 r.align))
      (first
        | exact HE3.out
        | go_keep
        | fail)
      (first
        | (go_at_call 56
           (with_reducible refine (HE.out _).mono ?_)
           rintro e W' ⟨rfl, rfl⟩)
        | (go_at_call 22
           (with_reducible refine (HRG.out _ (HSS2.out.keepB (Below.refl _ W2).drew)).mono ?_)
           rintro e W3 ⟨la, lc, rfl, l3, b3⟩
           have HE3 := hid (show W3.cell? ⟨pb, po, none⟩ = some (.int .i64 b0) ∧ W3.cell? ⟨pb, po + kk, none⟩ = some (.int .i64 bk) ∧ W3.cell? ⟨B0, 3, none⟩ = some (.int .i64 r.size) ∧ W3.cell? ⟨B0, 4, none⟩ = some (.int .i64 r.align) from by
             have bb := (Below.refl _ W2).drew.trans b3
             exact ⟨(bb.cell (p := ⟨pb, po, none⟩) hpb).trans x0, (bb.cell (p := ⟨pb, po + kk, none⟩) hpb).trans xk, (HX2.out.keep bb).x3, (HX2.out.keep bb).x4⟩))
        | fail)
    have B3 := (Below.refl _ W2).drew.trans b3
    have HX3 := hid (HX2.out.keep B3)
    have HDS3 := hid (HDS2.out.keepB B3)
    have K13 := hid ((B3.cell (p := ⟨kb, 0, none⟩) (show kb < W2.heap.size by omega)).trans K12.out)
    have K23 := hid ((B3.cell (p := ⟨db, 0, none⟩) (show db < W2.heap.size by omega)).trans K22.out)
    have HB3 := hid (show Below B0 w W3 from HB2.out.trans (B3.mono (Nat.le_of_lt hB2)))
    have HNu3 := hid (HNu.out.keep B3)
    have HL3 := hid l3
    clear b3 l3 HE3 hk5 hw2 hposN x0 xk y3 y4 HK4 HK5 HW1 HW2 hk1 hk2 hk3 hz hpos HX2 HSS2 HDS2 K12 K22 HB2 HNu HRG HE B3 hB2
    have HLr := hid (show Rising (ss.z.filter (inB b0 (el - 1))) from (rising_pw _).2 (List.Pairwise.filter _ ((rising_pw _).1 HSs.out.rise)))
    have HLt := hid (show ∀ x ∈ ss.z.filter (inB b0 (el - 1)), 0 ≤ x.1 ∧ x.1 < 1099511627776 from fun x hx => HSs.out.time x (List.mem_filter.1 hx).1)
    have HLl := hid (show (ss.z.filter (inB b0 (el - 1))).length ≤ 40000 from Nat.le_trans (List.length_filter_le ..) HSsn.out)
    have HVI := hid (vBk_in (r := r) HSs.out.all (by have := HSsn.out; omega))
    have HBK := hid (fun b (h1 : b0 ≤ b) (h2 : endB b r.size r.align ≤ el) => mid_bk (r := r) (ss := ss) h1 h2)
    generalize ss.z.filter (inB b0 (el - 1)) = L at *
    have hBd : B0 ≠ d := by have := HDb.out; omega
    go_wp2_with fail
    go_loopw [39] (fun i wr => ∃ j : Nat, j ≤ nn ∧ i = .int .i64 (j : Int) ∧ Hid (SerAt wr d dsz ((st.take j).foldl (makeS r ss) ds)) ∧ Hid (W3.grownBy wr (some d))) (fun i _ => nn - (intOf i).toNat)
    case atStart => exact ⟨0, Nat.zero_le _, rfl, hid HDS3.out, hid (gb_refl _ _)⟩
    case round =>
      obtain ⟨j, hj, rfl, SD, G⟩ := hrel
      by_cases hjn : j < nn
      · have T : Ts (fun i => i = d) W3 wr := .ser HDS3.out G.out
        have X : BoxU 32 wr B0 r := (T.block HX3.out.lt hBd).trans HX3.out
        have y3 := X.x3
        have y4 := X.x4
        have k1 := T.tu.cell K13.out hkd
        have k2 := T.tu.cell K23.out hdd
        obtain ⟨qb, qo, e0, hqb, x0⟩ := (HNu3.out.ts T).at_ j hjn
        have e1 : qb = pb ∧ qo = po := by simp only [Option.some.injEq, Addr.mk.injEq, and_true] at e0; exact ⟨e0.1.symm, e0.2.symm⟩
        rw [e1.1, e1.2] at x0
        have LL := hid (T.samp HL3.out)
        clear X T e0 e1 hqb
        have hjs : j < st.length := by rw [HNN.out]; exact hjn
        have hin := HST.out.in_ (st.getD j 0) (getD_mem12 hjs)
        have hen := endB_in HR.out ⟨hin.1, hin.2.1⟩
        have hmid := HMID.out j hjn
        have HFO := hid (show (st.take (j + 1)).foldl (makeS r ss) ds = makeS r ss ((st.take j).foldl (makeS r ss) ds) (st.getD j 0) from by
          rw [List.take_succ_eq_append_getElem hjs, List.foldl_append, List.getD_eq_getElem?_getD, List.getElem?_eq_getElem hjs]; rfl)
        obtain ⟨q1, _, _, _, q5⟩ := rem_spec (r := r) (s := ss) HVI.out (st.take j) ds (fun b hb => by have := HST.out.in_ b (List.mem_of_mem_take hb); exact ⟨this.1, this.2.1⟩) HSd.out
        have q6 : ((st.take j).foldl (makeS r ss) ds).z.length ≤ 80000 := by
          rw [List.length_take] at q5
          have := HDsn.out
          have := HLEN.out
          omega
        have HQ1 := hid q1
        have HQ6 := hid q6
        clear q1 q5 q6
        have HE := hid (fun W => end_any (st.getD j 0) r.size r.align W)
        have HWI := hid (fun W (k : Lst W la L.length lc L) => hWithin la L.length lc L (st.getD j 0) (endB (st.getD j 0) r.size r.align) W k (by have := HLl.out; omega) HLr.out HLt.out hin.1 (by omega) (by omega))
        have HBKj := hid (HBK.out _ hmid.1 hmid.2)
        rw [HBKj.out] at HWI
        have HMK : Hid (makeS r ss ((st.take j).foldl (makeS r ss) ds) (st.getD j 0) = layS ((st.take j).foldl (makeS r ss) ds) (st.getD j 0) (isK r.kind (valsOf (inBk r ss (st.getD j 0)))) (valK r.kind (valsOf (inBk r ss (st.getD j 0))))) := hid rfl
        rw [HMK.out] at HFO
        have HBL := hid (show (inBk r ss (st.getD j 0)).length ≤ 40000 from Nat.le_trans (List.length_filter_le ..) HSsn.out)
        have hj0 : (0 : Int) ≤ (j : Int) := by omega
        have hj1 : (j : Int) < (nn : Int) := by omega
        clear HMK hin hen hmid hjs HBKj
        generalize inBk r ss (st.getD j 0) = bk' at *
        generalize (st.take j).foldl (makeS r ss) ds = dj at *
        generalize st.getD j 0 = b at *
        generalize endB b r.size r.align = eb at *
        go_wp2_with fail
        refine (HE.out _).mono ?_
        rintro e W' ⟨rfl, rfl⟩
        go_wp2_with fail
        refine (HWI.out _ LL.out).mono ?_
        rintro e W4 ⟨wa, wc, rfl, l4, b4⟩
        have SD4 := hid (SD.out.keepB b4)
        have L4 := hid l4
        have G4 := hid (gb_trans G.out (gb_below (row := some d) b4))
        have k14 := hid ((b4.cell (p := ⟨kb, 0, none⟩) (World.block_lt_of_cell? _ ⟨kb, 0, none⟩ k1)).trans k1)
        have k24 := hid ((b4.cell (p := ⟨db, 0, none⟩) (World.block_lt_of_cell? _ ⟨db, 0, none⟩ k2)).trans k2)
        clear l4 b4 k1 k2 y3 y4 x0 SD G LL HWI HE
        go_wp2_with fail
        refine (lay_any kb db r.kind d dsz dj b wa bk'.length wc bk' W4 k14.out k24.out SD4.out HQ1.out hd1 hd2 HQ6.out L4.out (by have := HBL.out; omega)).mono ?_
        rintro e W5 ⟨rfl, s5, g5⟩
        have S5 := hid s5
        have G5 := hid (gb_trans G4.out g5)
        clear s5 g5
        go_wp2
        go_roundw
        case rel => exact ⟨j + 1, by omega, by go_num, by rw [HFO.out]; exact S5, G5⟩
        case measure => simp [intOf]; omega
      · obtain rfl : nn = j := by omega
        have HT := hid (show st.take nn = st from List.take_of_length_le (by rw [HNN.out]; exact Nat.le_refl _))
        rw [HT.out] at SD
        have HF := hid (show LayP d dsz (st.foldl (makeS r ss) ds) w (.returned (.tuple #[])) wr from ⟨rfl, SD.out, gb_trans (gb_below (show Below w.heap.size w W3 from by rw [HBB.out]; exact HB3.out)) G.out⟩)
        go_wp2
        go_end0
        exact HF.out
end Go.Proofs.YtmifpfojhlmbkaaGreat
