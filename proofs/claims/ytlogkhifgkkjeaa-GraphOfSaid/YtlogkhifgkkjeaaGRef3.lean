/-
  Contracts of the document's Add, Drop, Gone of a graph.
-/
import Derived.Test.YtlogkhifgkkjeaaGRef2
namespace Go.Proofs.Ytlogkhifgkkjeaa
open Go.RowKit
set_option linter.unusedVariables false
set_option linter.unusedSimpArgs false

/-- What a call that turns the document's graph leaves. -/
def RgTurn (w w' : World) (r : Nat) (a0 : Option Addr) (L' : List Ru) : Prop := ∃ a n c, RgAt w' r a n c L' ∧ Tu (fun i => i = r) w w' ∧ ∀ ad, a = some ad → a0 = some ad ∨ (w.heap.size ≤ ad.block ∧ ad.block < w'.heap.size)
theorem rg_store {w0 w : World} {r : Nat} {s v : Value} {base : Nat} {L' : List Ru} {a0 : Option Addr} (hb : Below base w0 w) (hc : RgCell w r s) (R : URow 38 w base v L') (hr : r < base) (hbase : w0.heap.size = base) : RgTurn w0 (w.setCell ⟨r, 0, none⟩ v) r a0 L' := by
  obtain ⟨a, cap, rfl, ht, hown⟩ := R.shape
  have g : w.grownBy (w.setCell ⟨r, 0, none⟩ (.slice a L'.length cap)) (some r) := gb_set (gb_refl _ _) 0 _
  have hne : ∀ ad, a = some ad → ad.block ≠ r := fun ad e q => by
    have h1 := R.base (hown ad e)
    omega
  refine ⟨a, L'.length, cap, ⟨heap_set hc, ht.tu (Tu.gb (F := fun i => i = r) g rfl) (fun ad e q => hne ad e q), hne⟩, ?_, fun ad e => .inr ⟨by rw [hbase]; exact R.base (hown ad e), Nat.lt_of_lt_of_le (R.lt (hown ad e)) g.size⟩⟩
  subst hbase
  exact (Tu.of (F := fun i => i = r) hb).trans (Tu.gb (F := fun i => i = r) g rfl) (fun _ _ f => f)

theorem ins_at {L : List Ru} {r : Ru} : ∀ {j : Nat}, j ≤ L.length → (∀ t, t < j → ahU (uA L t) r) → (j = L.length ∨ ¬ ahU (uA L j) r) → insU r L = L.take j ++ r :: L.drop j := by
  induction L with
  | nil => intro j hj _ _; simp at hj; subst hj; rfl
  | cons x l ih =>
    intro j hj h1 h2
    cases j with
    | zero =>
      rcases h2 with e | e
      · simp at e
      · unfold insU; rw [if_neg (by simpa [uA] using e)]; rfl
    | succ j =>
      unfold insU
      rw [if_pos (by simpa [uA] using h1 0 (Nat.succ_pos _)), ih (j := j) (by simpa using hj) (fun t ht => by simpa [uA] using h1 (t + 1) (by omega)) (by
        rcases h2 with e | e
        · exact .inl (by simpa using e)
        · exact .inr (by simpa [uA] using e))]
      rfl
theorem gone_snoc {L : List Ru} {k : Tx} {j : Nat} (h : j < L.length) : goneL (L.take (j + 1)) k = goneL (L.take j) k ++ (if (uA L j).src ≠ k ∧ (uA L j).dst ≠ k then [uA L j] else []) := by
  rw [take_snoc_u h]; unfold goneL; rw [List.filter_append]
  congr 1
  by_cases e1 : (uA L j).src = k <;> by_cases e2 : (uA L j).dst = k <;> simp [e1, e2]

set_option maxRecDepth 100000 in
set_option maxHeartbeats 2000000 in
theorem rgone11_any (w : World) (r : Nat) (a : Option Addr) (n c : Nat) (L : List Ru) (k : Tx) (h : RgAt w r a n c L) (hn : n ≤ 1000) :
    Calls Try.prog 18 #[.pointer (some ⟨r, 0, none⟩), .string (bs k)] w fun e w' => e = .returned (.int .i64 (goneN L k : Int)) ∧ RgTurn w w' r a (goneL L k) := by
  have HLn := Lib.hid h.row.1
  have HH := Lib.hid h
  have hrl := h.lt
  clear h
  go_enter Try.func18, Try.ntmps18
  go_wp2
  go_loopw [5, 6] (fun o i wr => ∃ j : Nat, j ≤ n ∧ i = .int .i64 (j : Int) ∧ Hid (URow 38 wr w.heap.size o (goneL (L.take j) k)) ∧ Hid (Below w.heap.size w wr)) (fun _ i _ => n - (intOf i).toNat)
  case atStart => exact ⟨0, Nat.zero_le _, rfl, Lib.hid (by simpa [goneL] using URow.nil 38 w w.heap.size), Lib.hid (Below.refl _ _)⟩
  case round =>
    obtain ⟨j, hj, rfl, R, B⟩ := hrel
    have HH2 := Lib.hid (HH.out.keep B.out)
    have c0 := HH2.out.cell.c0
    by_cases hjn : j < n
    · have hjz : (j : Int) < (n : Int) := by omega
      have hj0 : (0 : Int) ≤ (j : Int) := by omega
      obtain ⟨b, off, rfl, hb, x0, x1, x2, x3, x4⟩ := HH2.out.row.at_ j hjn
      have heq := eq_bs (uA L j).src k
      have heq2 := eq_bs (uA L j).dst k
      have HS := Lib.hid (gone_snoc (L := L) (k := k) (j := j) (by rw [HLn.out]; exact hjn))
      have hlen : (goneL (L.take j) k).length ≤ 1000 := Nat.le_trans (goneL_le _ _) (by rw [List.length_take]; omega)
      have hsz := B.out.size
      generalize uA L j = q at *
      by_cases he : q.src = k
      · have HS2 := Lib.hid (show goneL (L.take (j + 1)) k = goneL (L.take j) k from by rw [HS.out, if_neg (fun h => h.1 he), List.append_nil])
        rw [decide_eq_true he] at heq
        have R3 := Lib.hid (show URow 38 wr w.heap.size _ (goneL (L.take (j + 1)) k) from by rw [HS2.out]; exact R.out)
        clear he HS HS2 heq2
        go_wp2
        go_roundw
        case rel => exact ⟨j + 1, by omega, by go_num, R3, B⟩
        case measure => simp [intOf]; omega
      · rw [decide_eq_false he] at heq
        by_cases he2 : q.dst = k
        · have HS2 := Lib.hid (show goneL (L.take (j + 1)) k = goneL (L.take j) k from by rw [HS.out, if_neg (fun h => h.2 he2), List.append_nil])
          rw [decide_eq_true he2] at heq2
          have R3 := Lib.hid (show URow 38 wr w.heap.size _ (goneL (L.take (j + 1)) k) from by rw [HS2.out]; exact R.out)
          clear he he2 HS HS2
          go_wp2
          go_roundw
          case rel => exact ⟨j + 1, by omega, by go_num, R3, B⟩
          case measure => simp [intOf]; omega
        · rw [decide_eq_false he2] at heq2
          rw [if_pos ⟨he, he2⟩] at HS
          have B1 := (Below.refl wr.heap.size wr).alloc (Nat.le_refl _) (.cells #[.string (bs q.src), .string (bs q.dst), .int .i64 q.kind, .int .i64 q.size, .int .i64 q.align] 38)
          have H1 := Lib.hid (RuAt.one 38 wr q)
          have R1 := Lib.hid (R.out.keep B1)
          have HB1 := Lib.hid (B.out.trans (B1.mono B.out.size))
          clear he he2 B1
          go_wp2_with (first
            | (at_builtin; refine wpList_append_du rfl _ _ rfl w.heap.size _ (goneL (L.take j) k) rfl R1.out _ 1 1 [q] rfl H1.out (by omega) HB1.out.size ?_; intro v2 w2 R2 g2))
          have R3 := Lib.hid (show URow 38 w2 w.heap.size v2 (goneL (L.take (j + 1)) k) from by rw [HS.out]; exact R2)
          have B3 := Lib.hid (URow.bel HB1.out HB1.out.size R1.out (Nat.le_refl _) g2)
          clear R2 g2 R1 H1 HB1 x0 x1 x2 x3 x4 c0 heq heq2
          go_wp2
          go_roundw
          case rel => exact ⟨j + 1, by omega, by go_num, R3, B3⟩
          case measure => simp [intOf]; omega
    · have hjz : ¬ (j : Int) < (n : Int) := by omega
      obtain rfl : j = n := by omega
      rw [show L.take j = L from List.take_of_length_le (by rw [HLn.out]; exact Nat.le_refl _)] at R
      obtain ⟨a5, cap5, rfl, h5, _⟩ := R.out.shape
      have f0 := frozen_of (o := 0) HH2.out.cell
      have HT := Lib.hid (rg_store (a0 := a) B.out HH2.out.cell R.out hrl rfl)
      have HN := Lib.hid (show ((j : Int) - ((goneL L k).length : Int)) = (goneN L k : Int) from by
        have := goneL_le L k
        unfold goneN
        have := HLn.out
        omega)
      have hle : (goneL L k).length ≤ j := by have := goneL_le L k; have := HLn.out; omega
      clear R h5
      generalize (goneL L k).length = m at *
      go_wp2
      go_ret
      exact ⟨ret_int HN.out, HT.out⟩

theorem gb_box3 {w0 w : World} {B : Nat} {r : Ru} (h : w0.grownBy w (some B)) :
    w0.grownBy (((((w.setCell ⟨B, 0, none⟩ (.string (bs r.src))).setCell ⟨B, 1, none⟩ (.string (bs r.dst))).setCell ⟨B, 2, none⟩ (.int .i64 r.kind)).setCell ⟨B, 3, none⟩ (.int .i64 r.size)).setCell ⟨B, 4, none⟩ (.int .i64 r.align)) (some B) :=
  gb_set (gb_set (gb_set (gb_set (gb_set h _ _) _ _) _ _) _ _) _ _
theorem rg_store_box {w0 W2 wr : World} {B r : Nat} {s v : Value} {L' : List Ru} {z q : Ru} {a0 : Option Addr} (hb0 : Below B w0 W2) (hw : w0.heap.size = B) (hb : Below W2.heap.size W2 wr) (hc : RgCell wr r s) (R : URow 38 wr W2.heap.size v L') (hr : r < B) (hX : BoxU 38 W2 B z) :
    RgTurn w0 ((((((wr.setCell ⟨r, 0, none⟩ v).setCell ⟨B, 0, none⟩ (.string (bs q.src))).setCell ⟨B, 1, none⟩ (.string (bs q.dst))).setCell ⟨B, 2, none⟩ (.int .i64 q.kind)).setCell ⟨B, 3, none⟩ (.int .i64 q.size)).setCell ⟨B, 4, none⟩ (.int .i64 q.align)) r a0 L' ∧ BoxU 38 ((((((wr.setCell ⟨r, 0, none⟩ v).setCell ⟨B, 0, none⟩ (.string (bs q.src))).setCell ⟨B, 1, none⟩ (.string (bs q.dst))).setCell ⟨B, 2, none⟩ (.int .i64 q.kind)).setCell ⟨B, 3, none⟩ (.int .i64 q.size)).setCell ⟨B, 4, none⟩ (.int .i64 q.align)) B q := by
  obtain ⟨a, cap, rfl, ht, hown⟩ := R.shape
  have hlt := hX.lt
  have g : wr.grownBy (wr.setCell ⟨r, 0, none⟩ (.slice a L'.length cap)) (some r) := gb_set (gb_refl _ _) 0 _
  have t1 := Tu.gb (F := fun i => i = r) g rfl
  have hX1 := (hX.keep hb).tu t1 (fun e => by omega)
  have hc1 : RgCell (wr.setCell ⟨r, 0, none⟩ (.slice a L'.length cap)) r (.slice a L'.length cap) := heap_set hc
  have hne : ∀ ad, a = some ad → ad.block ≠ r := fun ad e q => by
    have h1 := R.base (hown ad e)
    omega
  have hneB : ∀ ad, a = some ad → ad.block ≠ B := fun ad e q => by
    have h1 := R.base (hown ad e)
    omega
  have ht1 := ht.tu t1 hne
  have hbb : Below B w0 wr := hb0.trans (hb.mono (Nat.le_of_lt hlt))
  have t0 : Tu (fun i => i = r) w0 (wr.setCell ⟨r, 0, none⟩ (.slice a L'.length cap)) := by
    subst hw
    exact (Tu.of (F := fun i => i = r) hbb).trans t1 (fun _ _ f => f)
  have gB := gb_box3 (r := q) (gb_refl (wr.setCell ⟨r, 0, none⟩ (.slice a L'.length cap)) (some B))
  have tB := Tu.gb (F := fun i => i = B) gB rfl
  refine ⟨⟨a, L'.length, cap, ⟨(tB.block r (heap_lt hc1) (by omega)).trans hc1, ht1.tu tB hneB, hne⟩, ?_, fun ad e => .inr ⟨by have h1 := R.base (hown ad e); omega, Nat.lt_of_lt_of_le (R.lt (hown ad e)) (Nat.le_trans g.size gB.size)⟩⟩, box_set3 hX1⟩
  exact t0.trans tB (fun i hi e => by omega)

theorem RgTurn.same {w0 w : World} {r : Nat} {a : Option Addr} {n c : Nat} {L : List Ru} {B : Nat} (h : RgAt w0 r a n c L) (b : Below B w0 w) (e : w0.heap.size = B) : RgTurn w0 w r a L := by
  subst e
  exact ⟨a, n, c, h.keep b, Tu.of b, fun ad e => .inl e⟩

set_option maxRecDepth 100000 in
set_option maxHeartbeats 4000000 in
theorem rdrop11_any (w : World) (r : Nat) (a : Option Addr) (n c : Nat) (L : List Ru) (s d : Tx) (h : RgAt w r a n c L) (hn : n ≤ 1000) :
    Calls Try.prog 16 #[.pointer (some ⟨r, 0, none⟩), .string (bs s), .string (bs d)] w fun e w' => e = .returned (.tuple #[ruV (dropR L s d), .int .i64 (dropE L s d)]) ∧ RgTurn w w' r a (dropU L s d) := by
  have B0 := (Below.refl w.heap.size w).alloc (Nat.le_refl _) (.cells #[.string ⟨#[]⟩, .string ⟨#[]⟩, .int .i64 0, .int .i64 0, .int .i64 0] 38)
  have X0 : BoxU 38 (w.alloc (.cells #[.string ⟨#[]⟩, .string ⟨#[]⟩, .int .i64 0, .int .i64 0, .int .i64 0] 38)) w.heap.size zeroU := BoxU.new _ w zeroU
  have HLn := Lib.hid h.row.1
  have HO := Lib.hid h
  have H0 := h.keep B0
  have hrB := h.lt
  clear h
  go_enter Try.func16, Try.ntmps16
  go_wp2_with fail
  generalize hW0 : w.alloc (.cells #[.string ⟨#[]⟩, .string ⟨#[]⟩, .int .i64 0, .int .i64 0, .int .i64 0] 38) = W0 at *
  have HB0 := Lib.hid B0
  have HX0 := Lib.hid X0
  have HH := Lib.hid H0
  clear hW0 B0 X0 H0
  refine (rinto11_any W0 r a n c L d HH.out hn).mono ?_
  rintro e W1 ⟨rfl, b1⟩
  have HB1 := Lib.hid (HB0.out.trans (b1.mono HB0.out.size))
  have HX1 := Lib.hid (HX0.out.keep b1)
  have HH1 := Lib.hid (HH.out.keep b1)
  clear b1 HB0 HX0 HH
  obtain ⟨q, hq⟩ : ∃ q, (intoL L d).getD zeroU = q := ⟨_, rfl⟩
  rw [hq]
  unfold ruV
  have B2 := (Below.refl W1.heap.size W1).alloc (Nat.le_refl _) (.cells #[.string (bs q.src), .string (bs q.dst), .int .i64 q.kind, .int .i64 q.size, .int .i64 q.align] 38)
  have Y2 := BoxU.new 38 W1 q
  have HB2 := Lib.hid (HB1.out.trans (B2.mono HB1.out.size))
  have X2 := HX1.out.keep B2
  have HH2 := Lib.hid (HH1.out.keep B2)
  have hBlt := Lib.hid HX1.out.lt
  clear B2 HB1 HX1 HH1
  have hBw := Lib.hid (Eq.refl w.heap.size)
  revert hBw
  generalize hB : w.heap.size = B at HO HB2 X2 hBlt hrB ⊢
  intro hBw
  have HBw : Hid (w.heap.size = B) := Lib.hid hB
  clear hB hBw
  have x0 := X2.x0
  have x1 := X2.x1
  have x2 := X2.x2
  have x3 := X2.x3
  have x4 := X2.x4
  have f0 := frozen_of (o := 0) X2
  have f1 := frozen_of (o := 1) X2
  have f2 := frozen_of (o := 2) X2
  have f3 := frozen_of (o := 3) X2
  have f4 := frozen_of (o := 4) X2
  have HX2 := Lib.hid X2
  clear X2
  cases hI : intoL L d with
  | none =>
    have HD := Lib.hid (drop_miss (s := s) hI)
    clear hI hq Y2
    go_wp2
    refine bodyPost_ret (results_cell_pair rfl _ _ B _ _ _ _ (.int .i64 5) rfl rfl (box_set3 (r := zeroU) HX2.out) Try.underlying38 rfl (by kernel_rfl)) rfl ?_
    obtain ⟨d1, d2, d3⟩ := HD.out
    rw [d1, d2, d3]
    exact ⟨rfl, RgTurn.same HO.out (below_set3 (r := zeroU) HB2.out (Nat.le_refl _)) HBw.out⟩
  | some q' =>
    obtain rfl : q' = q := by rw [hI] at hq; exact hq
    have y0 := Y2.x0
    have y1 := Y2.x1
    have y2 := Y2.x2
    have y3 := Y2.x3
    have y4 := Y2.x4
    have HY2 := Lib.hid Y2
    have heq := eq_bs q'.src s
    clear Y2 hq
    by_cases hs : q'.src = s
    · have HD := Lib.hid (drop_hit (s := s) hI hs)
      rw [decide_eq_true hs] at heq
      clear hI hs
      go_wp2
      clear x0 x1 x2 x3 x4 f0 f1 f2 f3 f4 y0 y1 y2 y3 y4
      generalize hW2 : W1.alloc (.cells #[.string (bs q'.src), .string (bs q'.dst), .int .i64 q'.kind, .int .i64 q'.size, .int .i64 q'.align] 38) = W2 at *
      clear hW2
      have hBY := hBlt.out
      clear hBlt
      generalize W1.heap.size = Y at *
      have HBY := Lib.hid hBY
      clear hBY
      go_loopw [10, 11] (fun o i wr => ∃ j : Nat, j ≤ n ∧ i = .int .i64 (j : Int) ∧ Hid (URow 38 wr W2.heap.size o (outU (L.take j) q')) ∧ Hid (Below W2.heap.size W2 wr)) (fun _ i _ => n - (intOf i).toNat)
      case atStart => exact ⟨0, Nat.zero_le _, rfl, Lib.hid (by simpa [outU] using URow.nil 38 W2 W2.heap.size), Lib.hid (Below.refl _ _)⟩
      case round =>
        obtain ⟨j, hj, rfl, R, B5⟩ := hrel
        have HH3 := Lib.hid (HH2.out.keep B5.out)
        have HY3 := Lib.hid (HY2.out.keep B5.out)
        have c0 := HH3.out.cell.c0
        by_cases hjn : j < n
        · have hjz : (j : Int) < (n : Int) := by omega
          have hj0 : (0 : Int) ≤ (j : Int) := by omega
          have HAT := Lib.hid (fun W (hW : RgAt W r a n c L) => hW.row.at_ j hjn)
          obtain ⟨b, off, rfl, hb, x0, x1, x2, x3, x4⟩ := HH3.out.row.at_ j hjn
          have y0 := HY3.out.x0
          have y1 := HY3.out.x1
          have y2 := HY3.out.x2
          have y3 := HY3.out.x3
          have y4 := HY3.out.x4
          have heq2 := fun W => run_ne_du W (uA L j) q'
          unfold ruV at heq2
          have HH := Lib.hid (out_hit (l := L) (r := q') (j := j) (by rw [HLn.out]; exact hjn))
          have HK := Lib.hid (out_keep (l := L) (r := q') (j := j) (by rw [HLn.out]; exact hjn))
          have hlen : (outU (L.take j) q').length ≤ 1000 := Nat.le_trans (outU_len _ _) (by rw [List.length_take]; omega)
          have hsz := B5.out.size
          generalize uA L j = q at *
          by_cases he : q = q'
          · have R3 := Lib.hid (show URow 38 wr W2.heap.size _ (outU (L.take (j + 1)) q') from by rw [HH.out he]; exact R.out)
            rw [decide_eq_true he] at heq2
            clear he HH HK heq HAT
            go_wp2_with fail
            go_quiet (fail)
            have hd4 : Below wr.heap.size wr (wr.drewN nq) := gb_below_none ((show Drew wr (wr.drewN nq) from ⟨nq, rfl⟩).gb none)
            have R4 := Lib.hid (R3.out.keep hd4)
            have B4 := Lib.hid (B5.out.trans (hd4.mono hsz))
            generalize wr.drewN nq = W4 at *
            clear hd4 R3 x0 x1 x2 x3 x4 y0 y1 y2 y3 y4 c0 heq2
            go_wp2
            go_roundw
            case rel => exact ⟨j + 1, by omega, by go_num, R4, B4⟩
            case measure => simp [intOf]; omega
          · have HS := Lib.hid (HK.out he)
            rw [decide_eq_false he] at heq2
            clear he HH HK heq
            go_wp2_with fail
            go_quiet (fail)
            have hd4 : Below wr.heap.size wr (wr.drewN nq) := gb_below_none ((show Drew wr (wr.drewN nq) from ⟨nq, rfl⟩).gb none)
            have R4 := Lib.hid (R.out.keep hd4)
            have B4 := Lib.hid (B5.out.trans (hd4.mono hsz))
            have HH4 := Lib.hid (HH3.out.keep hd4)
            generalize wr.drewN nq = W4 at *
            clear hd4 x0 x1 x2 x3 x4 y0 y1 y2 y3 y4 c0 heq2
            have c0 := HH4.out.cell.c0
            obtain ⟨b2, off2, e2, hb2, x0, x1, x2, x3, x4⟩ := HAT.out W4 HH4.out
            cases e2
            have B6 := (Below.refl W4.heap.size W4).alloc (Nat.le_refl _) (.cells #[.string (bs q.src), .string (bs q.dst), .int .i64 q.kind, .int .i64 q.size, .int .i64 q.align] 38)
            have H1 := Lib.hid (RuAt.one 38 W4 q)
            have R1 := Lib.hid (R4.out.keep B6)
            have HB1 := Lib.hid (B4.out.trans (B6.mono B4.out.size))
            clear B6 HAT
            go_wp2_with (first
              | (at_builtin; refine wpList_append_du rfl _ _ rfl W2.heap.size _ (outU (L.take j) q') rfl R1.out _ 1 1 [q] rfl H1.out (by omega) HB1.out.size ?_; intro v2 w2 R2 g2))
            have R3 := Lib.hid (show URow 38 w2 W2.heap.size v2 (outU (L.take (j + 1)) q') from by rw [HS.out]; exact R2)
            have B3 := Lib.hid (URow.bel HB1.out HB1.out.size R1.out (Nat.le_refl _) g2)
            clear R2 g2 R1 H1 HB1 x0 x1 x2 x3 x4 c0
            go_wp2
            go_roundw
            case rel => exact ⟨j + 1, by omega, by go_num, R3, B3⟩
            case measure => simp [intOf]; omega
        · have hjz : ¬ (j : Int) < (n : Int) := by omega
          obtain rfl : j = n := by omega
          rw [show L.take j = L from List.take_of_length_le (by rw [HLn.out]; exact Nat.le_refl _)] at R
          obtain ⟨a5, cap5, rfl, h5, _⟩ := R.out.shape
          have fr := frozen_of (o := 0) HH3.out.cell
          have HX3 := HX2.out.keep B5.out
          have HT := Lib.hid (rg_store_box (q := q') (a0 := a) HB2.out HBw.out B5.out HH3.out.cell R.out hrB HX2.out)
          have hle : (outU L q').length ≤ j := by have := outU_len L q'; have := HLn.out; omega
          have y0 := HY3.out.x0
          have y1 := HY3.out.x1
          have y2 := HY3.out.x2
          have y3 := HY3.out.x3
          have y4 := HY3.out.x4
          have z0 := HX3.x0
          have z1 := HX3.x1
          have z2 := HX3.x2
          have z3 := HX3.x3
          have z4 := HX3.x4
          have f0 := frozen_of (o := 0) HX3
          have f1 := frozen_of (o := 1) HX3
          have f2 := frozen_of (o := 2) HX3
          have f3 := frozen_of (o := 3) HX3
          have f4 := frozen_of (o := 4) HX3
          have hrY : r ≠ Y := by have := HBY.out; omega
          have hrB2 : r ≠ B := by omega
          have hBYn : B ≠ Y := by have := HBY.out; omega
          clear h5 HX3
          generalize (outU L q').length = m at *
          go_wp2
          refine bodyPost_ret (results_cell_pair rfl _ _ B _ _ _ _ (.int .i64 0) rfl rfl HT.out.2 Try.underlying38 rfl (by kernel_rfl)) rfl ?_
          obtain ⟨d1, d2, d3⟩ := HD.out
          rw [d1, d2, d3]
          exact ⟨rfl, HT.out.1⟩
    · have HD := Lib.hid (drop_other (s := s) hI hs)
      rw [decide_eq_false hs] at heq
      clear hI hs
      go_wp2
      refine bodyPost_ret (results_cell_pair rfl _ _ B _ _ _ _ (.int .i64 5) rfl rfl (box_set3 (r := zeroU) HX2.out) Try.underlying38 rfl (by kernel_rfl)) rfl ?_
      obtain ⟨d1, d2, d3⟩ := HD.out
      rw [d1, d2, d3]
      exact ⟨rfl, RgTurn.same HO.out (below_set3 (r := zeroU) HB2.out (Nat.le_refl _)) HBw.out⟩

end Go.Proofs.Ytlogkhifgkkjeaa
