/-
  The statement 'BitsBack' of layer 1: for every script, what was put is got, in order, and nothing is left.
  No condition.
-/
import Derived.Test.YtgeldifemnffbaaOps
import Derived.ShutString
import Derived.ChangeOld
import Derived.StillTailTactics
namespace Go.Proofs.Ytgeldifemnffbaa
namespace bitsBack
open Go.ChangeShapes Go.WideShapes Go.ChangeAt Go.RowKit
open Go.ChangeMaps (open_string shut_string)
set_option linter.unusedVariables false

theorem own : ownKnob Try.prog.godebug = none := by kernel_rfl
theorem laidOut : laidOutB Try.prog = true := by kernel_rfl
theorem info_op : (Try.prog.info? 30).map (fun i => (i.zero, i.size, i.bytes)) = some (some (.agg #[.int .u64 0, .int .i64 0]), 2, 16) := by kernel_rfl

/-- How the script's element j lies in memory, as long as the old memory is as it was. -/
theorem op_cells {w wr : World} {a : Option Addr} {len : Nat} {z : List (Nat × Int)} (h : OpsAt w a len z) (hb : Below w.heap.size w wr) (j : Nat) (hj : j < len) :
    ∃ b off U N, a = some ⟨b, off, none⟩ ∧ wr.cell? ⟨b, off + j * 2, none⟩ = some (.int .u64 ((U : Nat) : Int)) ∧ wr.cell? ⟨b, off + j * 2 + 1, none⟩ = some (.int .i64 N) ∧ U < 18446744073709551616 ∧ b < w.heap.size ∧ Hid (z[j]? = some (U, N)) := by
  obtain ⟨hl, _, h1, h2, h3⟩ := h
  rcases h3 with h0 | ⟨b, off, rfl, hlt, hc⟩
  · omega
  · have hj' : j < z.length := by omega
    obtain ⟨c0, c1⟩ := hc j hj'
    refine ⟨b, off, z[j].1, z[j].2, rfl, ?_, ?_, h1 _ (List.getElem_mem hj'), hlt, List.getElem?_eq_getElem hj'⟩
    · rw [hb.cell hlt]; exact c0
    · rw [hb.cell hlt]; exact c1

/-- How an element of a row of the call's own lies in memory. -/
theorem row_cells {W : World} {base : Nat} {v : Value} {l : List (Nat × Int)} (hown : W.ownsRow base 30 2 v l.length (opCells l)) (j : Nat) (hj : j < l.length) :
    ∃ g cp U N, v = .slice (some ⟨g, 0, none⟩) l.length cp ∧ W.cell? ⟨g, j * 2, none⟩ = some (.int .u64 ((U : Nat) : Int)) ∧ W.cell? ⟨g, j * 2 + 1, none⟩ = some (.int .i64 N) ∧ Hid (l[j] = (U, N)) := by
  rcases hown.2 with ⟨_, h0⟩ | ⟨g, cp, cur, rfl, _, hgc, _, _, hsz, htk⟩
  · omega
  · obtain ⟨h1, h2⟩ := opCells_get l j hj
    rw [← htk] at h1 h2
    rw [List.getElem?_take, if_pos (by omega), Array.getElem?_toList] at h1 h2
    exact ⟨g, cp, l[j].1, l[j].2, rfl, by rw [cell_of hgc]; exact h1, by rw [cell_of hgc]; exact h2, rfl⟩

theorem owns_slice {W : World} {base : Nat} {v : Value} {e : TypeId} {k n : Nat} {cs : List Value} (hown : W.ownsRow base e k v n cs) : ∃ ad cp, v = .slice ad n cp := by
  rcases hown.2 with ⟨rfl, rfl⟩ | ⟨g, cp, cur, rfl, _⟩
  · exact ⟨none, 0, rfl⟩
  · exact ⟨_, cp, rfl⟩

/-- An append to a row of the call's own leaves a Writer, and old memory, as they were. -/
theorem wr_append {w W W' : World} {b base : Nat} {xs : List Bool} {v : Value} {n : Nat} {cs : List Value} {o : Obj} (hw : WrAt W b xs) (hown : W.ownsRow base 30 2 v n cs) (hb : b < base)
    (hg : (W.alloc o).grownBy W' v.ownBlock) (hB : Below w.heap.size w W) (hle : w.heap.size ≤ b) (hs : base ≤ W.heap.size) : WrAt W' b xs ∧ Below w.heap.size w W' ∧ base ≤ W'.heap.size := by
  have hwa := hw.keep_none (World.grownBy_alloc W o none)
  have hBa := hB.alloc (by omega) o
  have hsa : base ≤ (W.alloc o).heap.size := by simp; omega
  have hs' := Nat.le_trans hsa hg.size
  rcases hown.2 with ⟨rfl, _⟩ | ⟨g, cap, cur, rfl, hgb, hgc, _⟩
  · exact ⟨hwa.keep_none hg, bel_gbn hBa (by omega) hg, hs'⟩
  · have ha : Apart (W.alloc o) g := apart_of (heap_old hgc) (by decide)
    have hgb' : base ≤ g := hgb
    exact ⟨hwa.keep hg (b' := g) (by omega) ha, bel_gb (k := g) hBa (by omega) (by omega) hg, hs'⟩

set_option maxRecDepth 100000 in
set_option maxHeartbeats 1000000 in
theorem walk (a : Option Addr) (len cap : Nat) (z : List (Nat × Int)) (w : World) (hz : OpsAt w a len z) :
    Calls Try.prog 5 #[.slice a len cap] w fun e w' => e = .returned (.bool true) ∧ Below w.heap.size w w' := by
  have hlen := hz.2.1
  go_enter Try.func5, Try.ntmps5
  go_wp2_with fail
  have B1 := (Below.refl w.heap.size w).alloc (Nat.le_refl _) (.cells #[.pointer none, .int .u64 0, .int .i64 0] 27)
  have hw1 := wr_new w
  have s1 : w.heap.size + 1 ≤ (w.alloc (.cells #[.pointer none, .int .u64 0, .int .i64 0] 27)).heap.size := by simp
  generalize w.alloc (.cells #[.pointer none, .int .u64 0, .int .i64 0] 27) = W1 at *
  go_loopw [4, 5] (fun v i wr => ∃ j : Nat, j ≤ len ∧ j ≤ 60 ∧ i = .int .i64 (j : Int) ∧ wr.ownsRow (w.heap.size + 1) 30 2 v (okOps (z.take j)).length (opCells (okOps (z.take j))) ∧
    WrAt wr w.heap.size (bitsAll (okOps (z.take j))) ∧ Below w.heap.size w wr ∧ w.heap.size + 1 ≤ wr.heap.size) (fun _ i _ => 60 - (intOf i).toNat)
  case atStart => exact ⟨0, Nat.zero_le _, by omega, rfl, World.ownsRow_nil _ _ _ _, hw1, B1, s1⟩
  case round =>
    obtain ⟨j, hj, hj60, rfl, hown, hw2, B2, s2⟩ := hrel
    by_cases hjl : j < len
    · by_cases hj6 : j < 60
      · obtain ⟨b, off, U, N, rfl, c0, c1, hU, hbw, HZ⟩ := op_cells hz B2 j hjl
        go_wp2_with fail
        refine wp_region_still_tail 11 (by kernel_rfl) (by kernel_rfl) ?_
        simp only [List.take_succ_cons, List.take_zero, List.drop_succ_cons, List.drop_zero]
        change wpStill _ _ wr.drew (fun a' => wpList _ _ _ _ a' wr.drew) _ _
        have d0 : wr.drew.cell? ⟨b, off + j * 2, none⟩ = some (.int .u64 ((U : Nat) : Int)) := c0
        have d1 : wr.drew.cell? ⟨b, off + j * 2 + 1, none⟩ = some (.int .i64 N) := c1
        have B3 := B2.drew
        have s3 : w.heap.size + 1 ≤ wr.drew.heap.size := s2
        have hw3 := hw2.keep_none (gb_drew (gb_refl wr none))
        have hown3 := hown.kept (gb_drew (gb_refl wr none)) (by simp; exact Classical.em _)
        clear c0 c1 B2 s2 hw2 hown
        generalize wr.drew = W3 at *
        repeat still_step
        refine wpStill_nil ?_
        go_wp2_with fail
        have hjz : j < z.length := by have := hz.1; omega
        have hzj : z[j] = (U, N) := by have := HZ.out; rw [List.getElem?_eq_getElem hjz] at this; exact Option.some.inj this
        have hbl := okOps_bits z j hj60
        have hcl := okOps_len z j
        by_cases hf : fits U N = true
        · have hN : 0 ≤ N ∧ N ≤ 64 ∧ U < 2 ^ N.toNat := by simpa [fits] using hf
          have HOK := Lib.hid (okOps_yes z j hjz (by rw [hzj]; exact hf))
          rw [hzj] at HOK
          have HS := Lib.hid (bitsAll_snoc (okOps (z.take j)) (U, N))
          have HC := Lib.hid (opCells_snoc (okOps (z.take j)) (U, N))
          rw [← HOK.out] at HS HC
          have HLL := Lib.hid (show (okOps (z.take (j + 1))).length = (okOps (z.take j)).length + 1 from by rw [HOK.out]; simp)
          clear hf hzj HZ HOK
          generalize okOps (z.take j) = acc at hbl hcl hw3 hown3 HS HC HLL ⊢
          refine (put_okI w.heap.size _ _ N _ hw3 (by omega) (by omega) (by omega) hN.1 hN.2.1 (by rw [Int.toNat_natCast]; exact hN.2.2)).mono ?_
          rintro e W4 ⟨rfl, hw4, g4⟩
          rw [Int.toNat_natCast] at hw4
          have B4 := bel_gb B3 (by omega) (Nat.le_refl _) g4
          have s4 := Nat.le_trans s3 g4.size
          have hown4 := hown3.kept g4 (by right; intro e; have := hown3.lt _ e; omega)
          have c0 : W4.cell? ⟨b, off + j * 2, none⟩ = some (.int .u64 ((U : Nat) : Int)) := by rw [B4.cell hbw, ← B3.cell hbw]; exact d0
          have c1 : W4.cell? ⟨b, off + j * 2 + 1, none⟩ = some (.int .i64 N) := by rw [B4.cell hbw, ← B3.cell hbw]; exact d1
          clear hw3 g4 B3 s3 hown3 d0 d1
          obtain ⟨i0, hi, hz0, hz1, hz2⟩ := info_parts info_op
          go_wp2_with (at_builtin; refine wpList_append_own _ rfl _ _ 22 rfl (w.heap.size + 1) 30 i0 _ 2 16 Try.underlying22 hi hz0 hz1 hz2 rfl (by decide) _ _ _ rfl (hown4.alloc _) ⟨W4.heap.size, 0, none⟩ 1 1 [.int .u64 (U : Int), .int .i64 N] rfl rfl ?c1 ?c2 ?c3 ?c4 ?c5 ?_)
          case c1 =>
            intro j u hj
            match j, hj with
            | 0, hj => simp at hj; subst hj; simp [Addr.add]
            | 1, hj => simp at hj; subst hj; simp [Addr.add]
          case c2 => intro u hu; simp at hu; rcases hu with rfl | rfl <;> rfl
          case c3 => unfold maxLen; omega
          case c4 => omega
          case c5 => simp; omega
          intro v' W5 hown5 g5 _
          obtain ⟨hw5, B5, s5⟩ := wr_append hw4 hown4 (Nat.lt_succ_self _) g5 B4 (Nat.le_refl _) s4
          clear hw4 hown4 g5 B4 s4 c0 c1 hi hz0 hz1 hz2
          go_wp2
          go_roundw
          case rel => exact ⟨j + 1, by omega, by omega, by go_num, by rw [HLL.out, HC.out]; exact hown5, by rw [HS.out]; exact hw5, B5, s5⟩
          case measure => simp [intOf]; omega
        · have hf' : fits U N = false := by simpa using hf
          have HOK := Lib.hid (okOps_no z j hjz (by rw [hzj]; exact hf'))
          have HF := Lib.hid hf'
          clear hf hf' hzj HZ
          generalize okOps (z.take j) = acc at hbl hcl hw3 hown3 HOK ⊢
          refine (put_bad w.heap.size U N _ hU HF.out).mono ?_
          rintro e w' ⟨rfl, rfl⟩
          go_wp2
          go_roundw
          case rel => exact ⟨j + 1, by omega, by omega, by go_num, by rw [HOK.out]; exact hown3, by rw [HOK.out]; exact hw3, B3, s3⟩
          case measure => simp [intOf]; omega
      · obtain rfl : j = 60 := by omega
        have hbl := okOps_bits z 60 (by omega)
        have hcl := okOps_len z 60
        have hfit := Lib.hid (okOps_fits (z.take 60))
        go_wp2_with fail
        generalize okOps (z.take 60) = acc at hbl hcl hfit hown hw2
        clear hz
        refine (bytes_any w.heap.size _ _ hw2 (by omega)).mono ?_
        rintro e W3 ⟨rfl, b3⟩
        have hw3 := hw2.keep_none (gb_below b3)
        have hown3 := hown.kept (gb_below (row := none) b3) (by simp; exact Classical.em _)
        have B3 := bel_gbn B2 (by omega) (gb_below b3)
        have s3 := Nat.le_trans s2 b3.size
        clear hw2 hown B2 s2 b3
        obtain ⟨xs, hxs⟩ : ∃ xs, xs = bitsAll acc := ⟨_, rfl⟩
        rw [← hxs] at hbl hw3 ⊢
        have HXS := Lib.hid hxs
        clear hxs
        have hps : ByteArray.size ⟨(packL xs).toArray⟩ = (xs.length + 7) / 8 := by
          show (packL xs).toArray.size = _
          rw [List.size_toArray, packL_length]
        have HPS := Lib.hid hps
        clear hps
        go_wp2_with fail
        refine (len_any w.heap.size _ _ hw3).mono ?_
        rintro e w' ⟨rfl, rfl⟩
        go_wp2_with fail
        refine (read_ok _ xs.length _ (by rw [HPS.out]; omega) (by rw [HPS.out]; omega)).mono ?_
        rintro e W4 ⟨r, rfl, hr4, hr, b4⟩
        have hw4 := hw3.keep_none (gb_below b4)
        have hown4 := hown3.kept (gb_below (row := none) b4) (by simp; exact Classical.em _)
        have B4 := bel_gbn B3 (by omega) (gb_below b4)
        have s4 := Nat.le_trans s3 b4.size
        have hrr : w.heap.size + 1 ≤ r := Nat.le_trans s3 hr
        clear hw3 hown3 B3 s3 b4
        replace hr4 : RdAt W4 r xs 0 := by
          have e : bitsL ((⟨(packL xs).toArray⟩ : ByteArray)).data.toList xs.length = xs := bitsL_pack xs
          rw [e] at hr4; exact hr4
        have hrow : r < W4.heap.size := hr4.lt
        have hne : Hid (u4.ownBlock ≠ some r) := by
          intro e
          obtain ⟨_, h2⟩ := hown4
          rcases h2 with ⟨rfl, _⟩ | ⟨g, cap, cur, rfl, _, hgc, _⟩
          · simp [Value.ownBlock] at e
          · simp [Value.ownBlock] at e
            subst e
            obtain ⟨t, hc, _⟩ := hr4
            rw [hgc] at hc
            simp at hc
        go_wp2_with fail
        go_loopw [8] (fun i wr => ∃ j : Nat, j ≤ acc.length ∧ i = .int .i64 (j : Int) ∧ RdAt wr r xs (bitsAll (acc.take j)).length ∧ WrAt wr w.heap.size xs ∧ wr.ownsRow (w.heap.size + 1) 30 2 u4 acc.length (opCells acc) ∧ Below w.heap.size w wr ∧ w.heap.size + 1 ≤ wr.heap.size) (fun i _ => acc.length - (intOf i).toNat)
        case atStart => exact ⟨0, Nat.zero_le _, rfl, hr4, hw4, hown4, B4, s4⟩
        case round =>
          obtain ⟨j, hj, rfl, hr5, hw5, hown5, B5, s5⟩ := hrel
          by_cases hjl : j < acc.length
          · obtain ⟨g, cp, U, N, rfl, c0, c1, HG⟩ := row_cells hown5 j hjl
            have hfj := hfit.out _ (List.getElem_mem hjl)
            rw [HG.out] at hfj
            have hfj' : 0 ≤ N ∧ N ≤ 64 ∧ U < 2 ^ N.toNat := by simpa [fits] using hfj
            have HRD := bitsAll_read acc j hjl (by rw [HG.out]; exact hfj)
            rw [HG.out, ← HXS.out] at HRD
            have HR1 := Lib.hid HRD.1
            have HR2 := Lib.hid HRD.2
            have HTK := Lib.hid (show (bitsAll (acc.take (j + 1))).length = (bitsAll (acc.take j)).length + N.toNat from by rw [bitsAll_take acc j hjl, HG.out, List.length_append, bitsOf_length])
            clear HRD hfj
            have hne1 := ne_wr_rd hw5 hr5
            generalize (bitsAll (acc.take j)).length = p at hr5 HR1 HR2 HTK
            go_wp2_with fail
            refine (get_okI r xs p N _ hr5 hfj'.1 hfj'.2.1 HR2.out).mono ?_
            rintro e W6 ⟨rfl, hr6, g6⟩
            rw [HR1.out]
            have hw6 := hw5.keep g6 hne1 hr5.apart
            have hown6 := hown5.kept g6 (.inr hne.out)
            have B6 := bel_gb B5 (by omega) (by omega) g6
            have s6 := Nat.le_trans s5 g6.size
            have d0 : W6.cell? ⟨g, j * 2, none⟩ = some (.int .u64 (U : Int)) := by
              refine g6.cell c0 ?_
              intro e; exact hne.out (by simpa [Value.ownBlock] using e)
            clear hw5 hown5 B5 s5 g6 hr5 c0 c1
            go_wp2
            go_roundw
            case rel => exact ⟨j + 1, by omega, by go_num, by rw [HTK.out]; exact hr6, hw6, hown6, B6, s6⟩
            case measure => simp [intOf]; omega
          · obtain rfl : j = acc.length := by omega
            obtain ⟨ad, cp, rfl⟩ := owns_slice hown5
            rw [List.take_of_length_le (Nat.le_refl _), ← HXS.out] at hr5
            go_wp2_with fail
            refine (left_any r xs _ _ hr5).mono ?_
            rintro e W6 ⟨rfl, d6⟩
            rw [show ((xs.length : Nat) : Int) - ((xs.length : Nat) : Int) = 0 from by omega]
            have hw6 := hw5.keep_none (d6.gb none)
            have B6 := bel_gbn B5 (by omega) (d6.gb none)
            have s6 := Nat.le_trans s5 (d6.gb none).size
            clear hw5 hown5 B5 s5 d6 hr5
            go_wp2_with fail
            refine (bytes_any w.heap.size _ _ hw6 (by omega)).mono ?_
            rintro e W7 ⟨rfl, b7⟩
            have hw7 := hw6.keep_none (gb_below b7)
            have B7 := bel_gbn B6 (by omega) (gb_below b7)
            have s7 := Nat.le_trans s6 b7.size
            clear hw6 B6 s6 b7
            obtain ⟨pk, hpk⟩ : ∃ pk : ByteArray, pk = ⟨(packL xs).toArray⟩ := ⟨_, rfl⟩
            have hpz : pk.size = (xs.length + 7) / 8 := by rw [hpk]; exact HPS.out
            rw [← hpk]
            have HPZ := Lib.hid hpz
            have hpb : pk.size ≤ 1000000 := by omega
            clear hpk hpz
            go_wp2_with fail
            refine (len_any w.heap.size _ _ hw7).mono ?_
            rintro e w' ⟨rfl, rfl⟩
            have ht : (((pk.size : Nat) : Int) == ((xs.length : Int) + 7) / 8) = true := by rw [HPZ.out]; simp
            go_wp2_with fail
            refine (known_any _).mono ?_
            rintro e W8 ⟨rfl, b8⟩
            have B8 := bel_gbn B7 (by omega) (gb_below b8)
            clear b8 B7 s7 hw7
            go_wp2
            go_ret
            exact ⟨rfl, B8⟩
    · obtain rfl : j = len := by omega
      have hbl := okOps_bits z j hj60
      have hcl := okOps_len z j
      have hfit := Lib.hid (okOps_fits (z.take j))
      go_wp2_with fail
      generalize okOps (z.take j) = acc at hbl hcl hfit hown hw2
      clear hz
      refine (bytes_any w.heap.size _ _ hw2 (by omega)).mono ?_
      rintro e W3 ⟨rfl, b3⟩
      have hw3 := hw2.keep_none (gb_below b3)
      have hown3 := hown.kept (gb_below (row := none) b3) (by simp; exact Classical.em _)
      have B3 := bel_gbn B2 (by omega) (gb_below b3)
      have s3 := Nat.le_trans s2 b3.size
      clear hw2 hown B2 s2 b3
      obtain ⟨xs, hxs⟩ : ∃ xs, xs = bitsAll acc := ⟨_, rfl⟩
      rw [← hxs] at hbl hw3 ⊢
      have HXS := Lib.hid hxs
      clear hxs
      have hps : ByteArray.size ⟨(packL xs).toArray⟩ = (xs.length + 7) / 8 := by
        show (packL xs).toArray.size = _
        rw [List.size_toArray, packL_length]
      have HPS := Lib.hid hps
      clear hps
      go_wp2_with fail
      refine (len_any w.heap.size _ _ hw3).mono ?_
      rintro e w' ⟨rfl, rfl⟩
      go_wp2_with fail
      refine (read_ok _ xs.length _ (by rw [HPS.out]; omega) (by rw [HPS.out]; omega)).mono ?_
      rintro e W4 ⟨r, rfl, hr4, hr, b4⟩
      have hw4 := hw3.keep_none (gb_below b4)
      have hown4 := hown3.kept (gb_below (row := none) b4) (by simp; exact Classical.em _)
      have B4 := bel_gbn B3 (by omega) (gb_below b4)
      have s4 := Nat.le_trans s3 b4.size
      have hrr : w.heap.size + 1 ≤ r := Nat.le_trans s3 hr
      clear hw3 hown3 B3 s3 b4
      replace hr4 : RdAt W4 r xs 0 := by
        have e : bitsL ((⟨(packL xs).toArray⟩ : ByteArray)).data.toList xs.length = xs := bitsL_pack xs
        rw [e] at hr4; exact hr4
      have hrow : r < W4.heap.size := hr4.lt
      have hne : Hid (u4.ownBlock ≠ some r) := by
        intro e
        obtain ⟨_, h2⟩ := hown4
        rcases h2 with ⟨rfl, _⟩ | ⟨g, cap, cur, rfl, _, hgc, _⟩
        · simp [Value.ownBlock] at e
        · simp [Value.ownBlock] at e
          subst e
          obtain ⟨t, hc, _⟩ := hr4
          rw [hgc] at hc
          simp at hc
      go_wp2_with fail
      go_loopw [8] (fun i wr => ∃ j : Nat, j ≤ acc.length ∧ i = .int .i64 (j : Int) ∧ RdAt wr r xs (bitsAll (acc.take j)).length ∧ WrAt wr w.heap.size xs ∧ wr.ownsRow (w.heap.size + 1) 30 2 u4 acc.length (opCells acc) ∧ Below w.heap.size w wr ∧ w.heap.size + 1 ≤ wr.heap.size) (fun i _ => acc.length - (intOf i).toNat)
      case atStart => exact ⟨0, Nat.zero_le _, rfl, hr4, hw4, hown4, B4, s4⟩
      case round =>
        obtain ⟨j, hj, rfl, hr5, hw5, hown5, B5, s5⟩ := hrel
        by_cases hjl : j < acc.length
        · obtain ⟨g, cp, U, N, rfl, c0, c1, HG⟩ := row_cells hown5 j hjl
          have hfj := hfit.out _ (List.getElem_mem hjl)
          rw [HG.out] at hfj
          have hfj' : 0 ≤ N ∧ N ≤ 64 ∧ U < 2 ^ N.toNat := by simpa [fits] using hfj
          have HRD := bitsAll_read acc j hjl (by rw [HG.out]; exact hfj)
          rw [HG.out, ← HXS.out] at HRD
          have HR1 := Lib.hid HRD.1
          have HR2 := Lib.hid HRD.2
          have HTK := Lib.hid (show (bitsAll (acc.take (j + 1))).length = (bitsAll (acc.take j)).length + N.toNat from by rw [bitsAll_take acc j hjl, HG.out, List.length_append, bitsOf_length])
          clear HRD hfj
          have hne1 := ne_wr_rd hw5 hr5
          generalize (bitsAll (acc.take j)).length = p at hr5 HR1 HR2 HTK
          go_wp2_with fail
          refine (get_okI r xs p N _ hr5 hfj'.1 hfj'.2.1 HR2.out).mono ?_
          rintro e W6 ⟨rfl, hr6, g6⟩
          rw [HR1.out]
          have hw6 := hw5.keep g6 hne1 hr5.apart
          have hown6 := hown5.kept g6 (.inr hne.out)
          have B6 := bel_gb B5 (by omega) (by omega) g6
          have s6 := Nat.le_trans s5 g6.size
          have d0 : W6.cell? ⟨g, j * 2, none⟩ = some (.int .u64 (U : Int)) := by
            refine g6.cell c0 ?_
            intro e; exact hne.out (by simpa [Value.ownBlock] using e)
          clear hw5 hown5 B5 s5 g6 hr5 c0 c1
          go_wp2
          go_roundw
          case rel => exact ⟨j + 1, by omega, by go_num, by rw [HTK.out]; exact hr6, hw6, hown6, B6, s6⟩
          case measure => simp [intOf]; omega
        · obtain rfl : j = acc.length := by omega
          obtain ⟨ad, cp, rfl⟩ := owns_slice hown5
          rw [List.take_of_length_le (Nat.le_refl _), ← HXS.out] at hr5
          go_wp2_with fail
          refine (left_any r xs _ _ hr5).mono ?_
          rintro e W6 ⟨rfl, d6⟩
          rw [show ((xs.length : Nat) : Int) - ((xs.length : Nat) : Int) = 0 from by omega]
          have hw6 := hw5.keep_none (d6.gb none)
          have B6 := bel_gbn B5 (by omega) (d6.gb none)
          have s6 := Nat.le_trans s5 (d6.gb none).size
          clear hw5 hown5 B5 s5 d6 hr5
          go_wp2_with fail
          refine (bytes_any w.heap.size _ _ hw6 (by omega)).mono ?_
          rintro e W7 ⟨rfl, b7⟩
          have hw7 := hw6.keep_none (gb_below b7)
          have B7 := bel_gbn B6 (by omega) (gb_below b7)
          have s7 := Nat.le_trans s6 b7.size
          clear hw6 B6 s6 b7
          obtain ⟨pk, hpk⟩ : ∃ pk : ByteArray, pk = ⟨(packL xs).toArray⟩ := ⟨_, rfl⟩
          have hpz : pk.size = (xs.length + 7) / 8 := by rw [hpk]; exact HPS.out
          rw [← hpk]
          have HPZ := Lib.hid hpz
          have hpb : pk.size ≤ 1000000 := by omega
          clear hpk hpz
          go_wp2_with fail
          refine (len_any w.heap.size _ _ hw7).mono ?_
          rintro e w' ⟨rfl, rfl⟩
          have ht : (((pk.size : Nat) : Int) == ((xs.length : Int) + 7) / 8) = true := by rw [HPZ.out]; simp
          go_wp2_with fail
          refine (known_any _).mono ?_
          rintro e W8 ⟨rfl, b8⟩
          have B8 := bel_gbn B7 (by omega) (gb_below b8)
          clear b8 B7 s7 hw7
          go_wp2
          go_ret
          exact ⟨rfl, B8⟩

set_option maxRecDepth 100000 in
theorem lifted (os : Os) (started : os.Started) (H : Type) (enc : TypeId × Value → H) :
    ReturnsInHanded {} Try.checked os 5 .any (Rows.bitsBackSpec.pre6 enc Try.prog Try.f5 Rows.bitsBackRow.domain false) (Rows.bitsBackSpec.post enc Try.prog Try.f5 false true false false) := by
  refine returnsInHanded_of_change (C := Try.checked) own started (by kernel_rfl) Try.func5
    (ChangeSpec.witness6 (enc := enc) (C := Try.checked) false ⟨#[], #[.slice none 0 0], []⟩ 8 (by kernel_rfl) (by kernel_rfl) (by kernel_rfl) (by kernel_rfl)) ?_
  intro W base args ds gs before hval0 hW hcnd _
  have hval : ∀ (j : Nat) t v, Try.f5.params[j]? = some t → args[j]? = some v → Value.okWide Try.prog W .any base t v := hval0
  have hW' := hW
  obtain ⟨p, q, hA0, hV, rfl, hfz, hnd⟩ := hW
  have hA : DataW.TrodAll enc Try.prog W 0 (fun _ => true) true Try.f5.params.toList args.toList ds p := hA0
  rw [Try.params5] at hA hval
  obtain ⟨v0, vs0, d0, ds0, p0, q0, hargs, rfl, rfl, h0, r0⟩ := trodAll_cons hA
  obtain ⟨rfl, rfl, rfl⟩ := trodAll_nil r0
  obtain rfl : args = #[v0] := by cases args; simp_all
  obtain ⟨rfl, rfl⟩ := trodVars_none hV
  obtain ⟨a0, len0, cap0, rfl⟩ := okWide_slice Try.underlying22 (hval 0 22 v0 rfl rfl)
  have k0 := h0
  have lt0 : ∀ x ∈ p0, x.block < W.heap.size := by obtain ⟨m, hm⟩ := k0; exact DataW.trod_lt m _ _ _ hm
  obtain ⟨z0, w0⟩ := open_ops h0
  clear hA0 hval0
  refine (walk a0 len0 cap0 z0 W w0).mono fun e W' ⟨he, bel⟩ => ?_
  subst he
  exact ⟨_, rfl, _, _, _, [], _, [], hW', trodAll_mk1 (shut_bool Try.underlying4 _), (trodAll_cons_mk (Below.trod laidOut (by kernel_rfl) (of_decide_eq_true (by kernel_rfl)) k0 bel lt0) trodAll_mk0), rfl, bel.frame _, fun h => by cases h⟩

theorem over : Rows.bitsBackRow.holds Try.pinned (OpenSpec.ofChange Rows.bitsBackSpec) :=
  OpenClaim.holds_of_wide 5 Try.f5 rfl rfl rfl rfl rfl rfl rfl ⟨rfl, rfl, rfl, rfl, rfl⟩ rfl rfl rfl rfl rfl (by kernel_rfl) Try.func5 (by kernel_rfl)
    (of_decide_eq_true (by kernel_rfl)) (by unfold Func.isWrapper; first | (rw [if_pos (by decide +kernel)]; kernel_rfl) | (rw [if_neg (by decide +kernel)]; exact ⟨rfl, rfl⟩))
    (fun os started H enc _ => lifted os started H enc)

theorem proved : Rows.BitsBackSaid := over
end bitsBack
theorem bitsBack_holds : Rows.BitsBackSaid := bitsBack.proved
#print axioms bitsBack_holds
end Go.Proofs.Ytgeldifemnffbaa
