/-
  The statement 'BitsWrites' of layer 1: for every script, whatever is put, one behind the other: what is told, how many bits there are, and the bytes, is as the document says.
  No condition.
-/
import Derived.Test.YtgeldifemnffbaaRefC
import Derived.Test.YtgeldifemnffbaaOps
import Derived.ShutString
import Derived.ChangeOld
import Derived.Laws.AppendOwnNone
namespace Go.Proofs.Ytgeldifemnffbaa
namespace bitsWrites
open Go.ChangeShapes Go.WideShapes Go.ChangeAt Go.RowKit
open Go.ChangeMaps (open_string shut_string)
set_option linter.unusedVariables false

theorem own : ownKnob Try.prog.godebug = none := by kernel_rfl
theorem laidOut : laidOutB Try.prog = true := by kernel_rfl

theorem op_cells {w wr : World} {a : Option Addr} {len : Nat} {z : List (Nat × Int)} (h : OpsAt w a len z) (hb : Below w.heap.size w wr) (j : Nat) (hj : j < len) :
    ∃ b off U N, a = some ⟨b, off, none⟩ ∧ wr.cell? ⟨b, off + j * 2, none⟩ = some (.int .u64 ((U : Nat) : Int)) ∧ wr.cell? ⟨b, off + j * 2 + 1, none⟩ = some (.int .i64 N) ∧ U < 18446744073709551616 ∧ Hid (z[j]? = some (U, N)) := by
  obtain ⟨hl, _, h1, h2, h3⟩ := h
  rcases h3 with h0 | ⟨b, off, rfl, hlt, hc⟩
  · omega
  · have hj' : j < z.length := by omega
    obtain ⟨c0, c1⟩ := hc j hj'
    refine ⟨b, off, z[j].1, z[j].2, rfl, ?_, ?_, h1 _ (List.getElem_mem hj'), List.getElem?_eq_getElem hj'⟩
    · rw [hb.cell hlt]; exact c0
    · rw [hb.cell hlt]; exact c1

/-- An append to a row of the call's own leaves a Writer, and old memory, as they were. -/
theorem wr_grown {w W W' : World} {b base : Nat} {xs : List Bool} {v : Value} {n : Nat} {cs : List Value} (hw : WrAt W b xs) (hown : W.ownsRow base 4 1 v n cs) (hb : b < base)
    (hg : W.grownBy W' v.ownBlock) (hB : Below w.heap.size w W) (hle : w.heap.size ≤ b) (hs : base ≤ W.heap.size) : WrAt W' b xs ∧ Below w.heap.size w W' ∧ base ≤ W'.heap.size := by
  have hs' := Nat.le_trans hs hg.size
  rcases hown.2 with ⟨rfl, _⟩ | ⟨g, cap, cur, rfl, hgb, hgc, _⟩
  · exact ⟨hw.keep_none hg, bel_gbn hB (by omega) hg, hs'⟩
  · have ha : Apart W g := apart_of hgc (by decide)
    have hgb' : base ≤ g := hgb
    exact ⟨hw.keep hg (b' := g) (by omega) ha, bel_gb (k := g) hB (by omega) (by omega) hg, hs'⟩

set_option maxRecDepth 100000 in
set_option maxHeartbeats 2000000 in
theorem walk (a : Option Addr) (len cap : Nat) (z : List (Nat × Int)) (w : World) (hz : OpsAt w a len z) :
    Calls Try.prog 3 #[.slice a len cap] w fun e w' => e = .returned (.bool true) ∧ Below w.heap.size w w' := by
  have hlen := hz.2.1
  go_enter Try.func3, Try.ntmps3
  go_wp2_with fail
  have B1 := (Below.refl w.heap.size w).alloc (Nat.le_refl _) (.cells #[.pointer none, .int .u64 0, .int .i64 0] 27)
  have hw1 := wr_new w
  have s1 : w.heap.size + 1 ≤ (w.alloc (.cells #[.pointer none, .int .u64 0, .int .i64 0] 27)).heap.size := by simp
  generalize w.alloc (.cells #[.pointer none, .int .u64 0, .int .i64 0] 27) = W1 at *
  go_loopw [4, 5] (fun v i wr => ∃ j : Nat, j ≤ len ∧ j ≤ 60 ∧ i = .int .i64 (j : Int) ∧ wr.ownsRow (w.heap.size + 1) 4 1 v (bitsAll (okOps (z.take j))).length (bv (bitsAll (okOps (z.take j)))) ∧
    WrAt wr w.heap.size (bitsAll (okOps (z.take j))) ∧ Below w.heap.size w wr ∧ w.heap.size + 1 ≤ wr.heap.size) (fun _ i _ => 60 - (intOf i).toNat)
  case atStart => exact ⟨0, Nat.zero_le _, by omega, rfl, World.ownsRow_nil _ _ _ _, hw1, B1, s1⟩
  case round =>
    obtain ⟨j, hj, hj60, rfl, hown, hw2, B2, s2⟩ := hrel
    by_cases hjl : j < len
    · by_cases hj6 : j < 60
      · obtain ⟨b, off, U, N, rfl, c0, c1, hU, HZ⟩ := op_cells hz B2 j hjl
        have hjz : j < z.length := by have := hz.1; omega
        have hzj : z[j] = (U, N) := by have := HZ.out; rw [List.getElem?_eq_getElem hjz] at this; exact Option.some.inj this
        have hbl := okOps_bits z j hj60
        have hbl' := okOps_bits z (j + 1) (by omega)
        go_wp2_with fail
        have B3 := B2.alloc (by omega) (.cells #[.int .u64 (U : Int), .int .i64 N] 30)
        have s3 : w.heap.size + 1 ≤ (wr.alloc (.cells #[.int .u64 (U : Int), .int .i64 N] 30)).heap.size := by simp; omega
        have hw3 := hw2.keep_none (World.grownBy_alloc wr (.cells #[.int .u64 (U : Int), .int .i64 N] 30) none)
        have hown3 := hown.alloc (.cells #[.int .u64 (U : Int), .int .i64 N] 30)
        have ho3 := heap_new wr (.cells #[.int .u64 (U : Int), .int .i64 N] 30)
        have hne : w.heap.size ≠ wr.heap.size := by omega
        generalize wr.alloc (.cells #[.int .u64 (U : Int), .int .i64 N] 30) = W3 at *
        clear hown hw2 B2 c0 c1
        generalize wr.heap.size = ob at *
        by_cases hf : fits U N = true
        · have hN : 0 ≤ N ∧ N ≤ 64 ∧ U < 2 ^ N.toNat := by simpa [fits] using hf
          have HF := Lib.hid hf
          have HOK := okOps_yes z j hjz (by rw [hzj]; exact hf)
          rw [hzj] at HOK
          have HS := Lib.hid (bitsAll_snoc (okOps (z.take j)) (U, N))
          rw [← HOK] at HS
          clear hf hzj HZ HOK
          generalize bitsAll (okOps (z.take j)) = xs at hbl hw3 hown3 HS ⊢
          refine (put_okI w.heap.size _ _ N _ hw3 (by omega) (by omega) (by omega) hN.1 hN.2.1 (by rw [Int.toNat_natCast]; exact hN.2.2)).mono ?_
          rintro e W4 ⟨rfl, hw4, g4⟩
          rw [Int.toNat_natCast, show xs ++ bitsOf U N.toNat = bitsAll (okOps (z.take (j + 1))) from HS.out.symm] at hw4
          have B4 := bel_gb B3 (by omega) (Nat.le_refl _) g4
          have s4 := Nat.le_trans s3 g4.size
          have hown4 := hown3.kept g4 (by right; intro e; have := hown3.lt _ e; omega)
          have ho4 : W4.heap[ob]? = some (.cells #[.int .u64 (U : Int), .int .i64 N] 30 (0, 0)) := by rw [g4.block ob (heap_lt ho3) (by simp; omega)]; exact ho3
          have d0 : W4.cell? ⟨ob, 0, none⟩ = some (.int .u64 (U : Int)) := by rw [cell_of ho4]; rfl
          have d1 : W4.cell? ⟨ob, 1, none⟩ = some (.int .i64 N) := by rw [cell_of ho4]; rfl
          have HO4 := Lib.hid ho4
          clear hw3 hown3 B3 s3 g4 ho3 ho4
          go_wp2_with fail
          refine (rfits_any U N _ hU).mono ?_
          rintro e W5 ⟨rfl, b5⟩
          rw [HF.out]
          have hw5 := hw4.keep_none (gb_below b5)
          have hown5 := hown4.kept (gb_below (row := none) b5) (by simp; exact Classical.em _)
          have B5 := bel_gbn B4 (by omega) (gb_below b5)
          have s5 := Nat.le_trans s4 b5.size
          have ho5 : W5.heap[ob]? = some (.cells #[.int .u64 (U : Int), .int .i64 N] 30 (0, 0)) := by rw [b5.block ob (heap_lt HO4.out)]; exact HO4.out
          have d0 : W5.cell? ⟨ob, 0, none⟩ = some (.int .u64 (U : Int)) := by rw [cell_of ho5]; rfl
          have d1 : W5.cell? ⟨ob, 1, none⟩ = some (.int .i64 N) := by rw [cell_of ho5]; rfl
          clear hw4 hown4 B4 s4 b5 ho5 HO4
          go_wp2_with fail
          obtain ⟨n, rfl⟩ := Int.eq_ofNat_of_zero_le hN.1
          refine (rbits_any U n _ hU (by omega)).mono ?_
          rintro e W6 ⟨v, rfl, hv, b6⟩
          have hw6 := hw5.keep_none (gb_below b6)
          have hown6 := hown5.kept (gb_below (row := none) b6) (by simp; exact Classical.em _)
          have B6 := bel_gbn B5 (by omega) (gb_below b6)
          have s6 := Nat.le_trans s5 b6.size
          rw [bitsOf_length] at hv
          rw [Int.toNat_natCast] at HS
          clear hw5 hown5 B5 s5 b6 d0 d1
          obtain ⟨i0, hi, hz0, hz1, hz2⟩ := info_parts info_bool
          have HHL := Lib.hid (show (bv (bitsOf U n)).length = n * 1 from by rw [bv_length, bitsOf_length, Nat.mul_one])
          have HON : Hid (∀ u ∈ bv (bitsOf U n), u.oneCell' = true) := bv_one _
          have HBV := Lib.hid (show bv (bitsAll (okOps (z.take (j + 1)))) = bv xs ++ bv (bitsOf U n) from by rw [HS.out, bv_append])
          have HLN := Lib.hid (show (bitsAll (okOps (z.take (j + 1)))).length = xs.length + n from by rw [HS.out, List.length_append, bitsOf_length])
          have hn64 : n ≤ 64 := by omega
          have hem : n = 0 → bv (bitsOf U n) = [] := by intro e; subst e; rfl
          clear hN HF
          obtain ⟨ys, hys⟩ : ∃ ys, ys = bitsAll (okOps (z.take (j + 1))) := ⟨_, rfl⟩
          rw [← hys] at hbl' HS HBV HLN hw6
          have HYS := Lib.hid hys
          clear hys
          generalize bv (bitsOf U n) = news at *
          rcases hv.2 with ⟨rfl, h0⟩ | ⟨g, cp, cur, rfl, _, hgc, hcl, _, hcs, htk⟩
          · subst h0
            have HEM := Lib.hid (hem rfl)
            clear hem hv
            go_wp2_with (at_builtin; refine wpList_append_own_none rfl _ _ 28 rfl (w.heap.size + 1) 4 i0 1 Try.underlying28 hi _ _ _ rfl hown6 rfl ?_)
            have hown7 : W6.ownsRow (w.heap.size + 1) 4 1 u4 ys.length (bv ys) := by
              rw [HBV.out, HEM.out, List.append_nil, HLN.out, Nat.add_zero]; exact hown6
            have hw7 := hw6
            have B7 := B6
            have s7 := s6
            clear hown6 hi hz0 hz1 hz2
            obtain ⟨ad, cp7, rfl, hcp, hba, _⟩ := owns_bools hown7
            go_wp2_with fail
            refine (len_any w.heap.size _ _ hw7).mono ?_
            rintro e w' ⟨rfl, rfl⟩
            go_wp2_with fail
            refine (bytes_any w.heap.size _ _ hw7 (by omega)).mono ?_
            rintro e W8 ⟨rfl, b8⟩
            have hw8 := hw7.keep_none (gb_below b8)
            have hown8 := hown7.kept (gb_below (row := none) b8) (by simp; exact Classical.em _)
            have hba8 := hba.keep b8
            have B8 := bel_gbn B7 (by omega) (gb_below b8)
            have s8 := Nat.le_trans s7 b8.size
            clear hw7 hown7 hba B7 s7 b8
            go_wp2_with fail
            refine (rbytes_any ad ys.length cp7 ys _ hba8 (by omega) hcp).mono ?_
            rintro e W9 ⟨rfl, b9⟩
            have hw9 := hw8.keep_none (gb_below b9)
            have hown9 := hown8.kept (gb_below (row := none) b9) (by simp; exact Classical.em _)
            have B9 := bel_gbn B8 (by omega) (gb_below b9)
            have s9 := Nat.le_trans s8 b9.size
            clear hw8 hown8 hba8 B8 s8 b9
            go_wp2
            go_roundw
            case rel => exact ⟨j + 1, by omega, by omega, by go_num, by rw [← HYS.out]; exact hown9, by rw [← HYS.out]; exact hw9, B9, s9⟩
            case measure => simp [intOf]; omega
          · have HCL : Hid (∀ q u, news[q]? = some u → W6.cell? ((⟨g, 0, none⟩ : Addr).add q) = some u) := by
              intro q u hq
              rw [← htk] at hq
              exact Lib.cells_of_row hgc _ q u hq
            clear hem hv hgc htk hcs
            go_wp2_with (at_builtin; refine wpList_append_own _ rfl _ _ 28 rfl (w.heap.size + 1) 4 i0 _ 1 1 Try.underlying28 hi hz0 hz1 hz2 rfl (by decide) _ _ _ rfl hown6 ⟨g, 0, none⟩ n cp news rfl HHL.out HCL.out HON.out (by unfold maxLen; omega) (by omega) s6 ?_)
            intro v7 W7 hown7' g7 _
            obtain ⟨hw7, B7, s7⟩ := wr_grown hw6 hown6 (Nat.lt_succ_self _) g7 B6 (Nat.le_refl _) s6
            have hown7 : W7.ownsRow (w.heap.size + 1) 4 1 v7 ys.length (bv ys) := by
              rw [HBV.out, HLN.out]; exact hown7'
            clear hown6 hi hz0 hz1 hz2 hown7' g7 hw6 B6 s6
            obtain ⟨ad, cp7, rfl, hcp, hba, _⟩ := owns_bools hown7
            go_wp2_with fail
            refine (len_any w.heap.size _ _ hw7).mono ?_
            rintro e w' ⟨rfl, rfl⟩
            go_wp2_with fail
            refine (bytes_any w.heap.size _ _ hw7 (by omega)).mono ?_
            rintro e W8 ⟨rfl, b8⟩
            have hw8 := hw7.keep_none (gb_below b8)
            have hown8 := hown7.kept (gb_below (row := none) b8) (by simp; exact Classical.em _)
            have hba8 := hba.keep b8
            have B8 := bel_gbn B7 (by omega) (gb_below b8)
            have s8 := Nat.le_trans s7 b8.size
            clear hw7 hown7 hba B7 s7 b8
            go_wp2_with fail
            refine (rbytes_any ad ys.length cp7 ys _ hba8 (by omega) hcp).mono ?_
            rintro e W9 ⟨rfl, b9⟩
            have hw9 := hw8.keep_none (gb_below b9)
            have hown9 := hown8.kept (gb_below (row := none) b9) (by simp; exact Classical.em _)
            have B9 := bel_gbn B8 (by omega) (gb_below b9)
            have s9 := Nat.le_trans s8 b9.size
            clear hw8 hown8 hba8 B8 s8 b9
            go_wp2
            go_roundw
            case rel => exact ⟨j + 1, by omega, by omega, by go_num, by rw [← HYS.out]; exact hown9, by rw [← HYS.out]; exact hw9, B9, s9⟩
            case measure => simp [intOf]; omega
        · have hf' : fits U N = false := by simpa using hf
          have HOK := Lib.hid (okOps_no z j hjz (by rw [hzj]; exact hf'))
          have HF := Lib.hid hf'
          clear hf hf' hzj HZ
          refine (put_bad w.heap.size U N _ hU HF.out).mono ?_
          rintro e w' ⟨rfl, rfl⟩
          have d0 : W3.cell? ⟨ob, 0, none⟩ = some (.int .u64 (U : Int)) := by rw [cell_of ho3]; rfl
          have d1 : W3.cell? ⟨ob, 1, none⟩ = some (.int .i64 N) := by rw [cell_of ho3]; rfl
          clear ho3
          go_wp2_with fail
          refine (rfits_any U N _ hU).mono ?_
          rintro e W7 ⟨rfl, b7⟩
          rw [HF.out]
          have hw7' := hw3.keep_none (gb_below b7)
          have hown7' := hown3.kept (gb_below (row := none) b7) (by simp; exact Classical.em _)
          have B7 := bel_gbn B3 (by omega) (gb_below b7)
          have s7 := Nat.le_trans s3 b7.size
          rw [← HOK.out] at hw7' hown7'
          obtain ⟨ys, hys⟩ : ∃ ys, ys = bitsAll (okOps (z.take (j + 1))) := ⟨_, rfl⟩
          rw [← hys] at hbl'
          have hw7 : WrAt W7 w.heap.size ys := by rw [hys]; exact hw7'
          have hown7 : W7.ownsRow (w.heap.size + 1) 4 1 u4 ys.length (bv ys) := by rw [hys]; exact hown7'
          have HYS := Lib.hid hys
          clear hys hw7' hown7' hw3 hown3 B3 s3 b7 d0 d1
          obtain ⟨ad, cp7, rfl, hcp, hba, _⟩ := owns_bools hown7
          go_wp2_with fail
          refine (len_any w.heap.size _ _ hw7).mono ?_
          rintro e w' ⟨rfl, rfl⟩
          go_wp2_with fail
          refine (bytes_any w.heap.size _ _ hw7 (by omega)).mono ?_
          rintro e W8 ⟨rfl, b8⟩
          have hw8 := hw7.keep_none (gb_below b8)
          have hown8 := hown7.kept (gb_below (row := none) b8) (by simp; exact Classical.em _)
          have hba8 := hba.keep b8
          have B8 := bel_gbn B7 (by omega) (gb_below b8)
          have s8 := Nat.le_trans s7 b8.size
          clear hw7 hown7 hba B7 s7 b8
          go_wp2_with fail
          refine (rbytes_any ad ys.length cp7 ys _ hba8 (by omega) hcp).mono ?_
          rintro e W9 ⟨rfl, b9⟩
          have hw9 := hw8.keep_none (gb_below b9)
          have hown9 := hown8.kept (gb_below (row := none) b9) (by simp; exact Classical.em _)
          have B9 := bel_gbn B8 (by omega) (gb_below b9)
          have s9 := Nat.le_trans s8 b9.size
          clear hw8 hown8 hba8 B8 s8 b9
          go_wp2
          go_roundw
          case rel => exact ⟨j + 1, by omega, by omega, by go_num, by rw [← HYS.out]; exact hown9, by rw [← HYS.out]; exact hw9, B9, s9⟩
          case measure => simp [intOf]; omega
      · obtain rfl : j = 60 := by omega
        go_wp2_with fail
        refine (known_any _).mono ?_
        rintro e W4 ⟨rfl, b4⟩
        have B4 := bel_gbn B2 (by omega) (gb_below b4)
        clear b4 B2 hown hw2
        go_wp2
        go_ret
        exact ⟨rfl, B4⟩
    · obtain rfl : j = len := by omega
      go_wp2_with fail
      refine (known_any _).mono ?_
      rintro e W4 ⟨rfl, b4⟩
      have B4 := bel_gbn B2 (by omega) (gb_below b4)
      clear b4 B2 hown hw2
      go_wp2
      go_ret
      exact ⟨rfl, B4⟩

set_option maxRecDepth 100000 in
theorem lifted (os : Os) (started : os.Started) (H : Type) (enc : TypeId × Value → H) :
    ReturnsInHanded {} Try.checked os 3 .any (Rows.bitsWritesSpec.pre6 enc Try.prog Try.f3 Rows.bitsWritesRow.domain false) (Rows.bitsWritesSpec.post enc Try.prog Try.f3 false true false false) := by
  refine returnsInHanded_of_change (C := Try.checked) own started (by kernel_rfl) Try.func3
    (ChangeSpec.witness6 (enc := enc) (C := Try.checked) false ⟨#[], #[.slice none 0 0], []⟩ 8 (by kernel_rfl) (by kernel_rfl) (by kernel_rfl) (by kernel_rfl)) ?_
  intro W base args ds gs before hval0 hW hcnd _
  have hval : ∀ (j : Nat) t v, Try.f3.params[j]? = some t → args[j]? = some v → Value.okWide Try.prog W .any base t v := hval0
  have hW' := hW
  obtain ⟨p, q, hA0, hV, rfl, hfz, hnd⟩ := hW
  have hA : DataW.TrodAll enc Try.prog W 0 (fun _ => true) true Try.f3.params.toList args.toList ds p := hA0
  rw [Try.params3] at hA hval
  obtain ⟨v0, vs0, d0, ds0, p0, q0, hargs, rfl, rfl, h0, r0⟩ := trodAll_cons hA
  obtain ⟨rfl, rfl, rfl⟩ := trodAll_nil r0
  obtain rfl : args = #[v0] := by cases args; simp_all
  obtain ⟨rfl, rfl⟩ := trodVars_none hV
  obtain ⟨a0, len0, cap0, rfl⟩ := okWide_slice Try.underlying22 (hval 0 22 v0 rfl rfl)
  have k0 := h0
  have lt0 : ∀ x ∈ p0, x.block < W.heap.size := by obtain ⟨m, hm⟩ := k0; exact DataW.trod_lt m _ _ _ hm
  obtain ⟨z0, w0⟩ := open_ops h0
  clear hA0 hval0
  refine (walk a0 len0 cap0 z0 W w0).mono fun e W' ⟨he, bel⟩ => ?_
  subst he
  exact ⟨_, rfl, _, _, _, [], _, [], hW', trodAll_mk1 (shut_bool Try.underlying4 _), (trodAll_cons_mk (Below.trod laidOut (by kernel_rfl) (of_decide_eq_true (by kernel_rfl)) k0 bel lt0) trodAll_mk0), rfl, bel.frame _, fun h => by cases h⟩

theorem over : Rows.bitsWritesRow.holds Try.pinned (OpenSpec.ofChange Rows.bitsWritesSpec) :=
  OpenClaim.holds_of_wide 3 Try.f3 rfl rfl rfl rfl rfl rfl rfl ⟨rfl, rfl, rfl, rfl, rfl⟩ rfl rfl rfl rfl rfl (by kernel_rfl) Try.func3 (by kernel_rfl)
    (of_decide_eq_true (by kernel_rfl)) (by unfold Func.isWrapper; first | (rw [if_pos (by decide +kernel)]; kernel_rfl) | (rw [if_neg (by decide +kernel)]; exact ⟨rfl, rfl⟩))
    (fun os started H enc _ => lifted os started H enc)

theorem proved : Rows.BitsWritesSaid := over
end bitsWrites
theorem bitsWrites_holds : Rows.BitsWritesSaid := bitsWrites.proved
#print axioms bitsWrites_holds
end Go.Proofs.Ytgeldifemnffbaa
