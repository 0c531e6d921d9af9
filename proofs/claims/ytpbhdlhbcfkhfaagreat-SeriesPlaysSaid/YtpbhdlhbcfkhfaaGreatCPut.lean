/-
  Contract of chunk.Put.
  Condition: fewer than 2^20 samples.
-/
import Derived.Test.YtpbhdlhbcfkhfaaGreatCTake
import Derived.Test.YtpbhdlhbcfkhfaaGreatPMerge
namespace Go.Proofs.YtpbhdlhbcfkhfaaGreat
open Go.RowKit
set_option linter.unusedVariables false
set_option linter.unusedSimpArgs false

/-- Three parts, the second one a sample. -/
theorem parts_three {w : World} {a1 a2 : Option Addr} {k m c1 c2 : Nat} {x y : List (Int × Int)} {T V : Int} (h1 : Lst w a1 k c1 x) (h2 : Lst w a2 m c2 y) (hT : in64 T) (hV : in64 V) :
    PartsAt ((w.alloc (.cells #[.int .i64 T, .int .i64 V] 33)).alloc (.cells #[.slice a1 k c1, .slice (some ⟨w.heap.size, 0, none⟩) 1 1, .slice a2 m c2] 53)) (w.heap.size + 1)
      [x, [(T, V)], y] (fun i => if i = 0 then a1 else if i = 1 then some ⟨w.heap.size, 0, none⟩ else a2) (fun i => if i = 0 then c1 else if i = 1 then 1 else c2) := by
  obtain rfl := h1.len
  obtain rfl := h2.len
  have hn := heap_new (w.alloc (.cells #[.int .i64 T, .int .i64 V] 33)) (.cells #[.slice a1 x.length c1, .slice (some ⟨w.heap.size, 0, none⟩) 1 1, .slice a2 y.length c2] 53)
  rw [show (w.alloc (.cells #[.int .i64 T, .int .i64 V] 33)).heap.size = w.heap.size + 1 from by simp] at hn
  have h1' := (h1.keepN (World.grownBy_alloc w (.cells #[.int .i64 T, .int .i64 V] 33) none)).keepN (World.grownBy_alloc _ (.cells #[.slice a1 x.length c1, .slice (some ⟨w.heap.size, 0, none⟩) 1 1, .slice a2 y.length c2] 53) none)
  have h2' := (h2.keepN (World.grownBy_alloc w (.cells #[.int .i64 T, .int .i64 V] 33) none)).keepN (World.grownBy_alloc _ (.cells #[.slice a1 x.length c1, .slice (some ⟨w.heap.size, 0, none⟩) 1 1, .slice a2 y.length c2] 53) none)
  have h3' : Lst ((w.alloc (.cells #[.int .i64 T, .int .i64 V] 33)).alloc (.cells #[.slice a1 x.length c1, .slice (some ⟨w.heap.size, 0, none⟩) 1 1, .slice a2 y.length c2] 53)) (some ⟨w.heap.size, 0, none⟩) 1 1 [(T, V)] :=
    lst_whole (all64_one hT hV) rfl (by omega) (heap_old (heap_new w _))
  intro i hi
  rcases (show i = 0 ∨ i = 1 ∨ i = 2 by simp at hi; omega) with rfl | rfl | rfl
  · exact ⟨by rw [cell_of hn]; rfl, h1'⟩
  · exact ⟨by rw [cell_of hn]; rfl, h3'⟩
  · exact ⟨by rw [cell_of hn]; rfl, h2'⟩

theorem flat_three (x y : List (Int × Int)) (s : Int × Int) : [x, [s], y].flatten = x ++ [s] ++ y := by simp

set_option maxRecDepth 100000 in
set_option maxHeartbeats 4000000 in
theorem put_ok4 (b : Nat) (sz : Int) (z : List (Int × Int)) (T V p : Int) (w : World) (h : PCk w b sz z) (hs : 1 ≤ sz) (hs2 : sz ≤ 4096) (hr : Rising z) (hn : z.length < 1048576) (hT : in64 T) (hV : in64 V) :
    Calls Tryz.prog 68 #[.pointer (some ⟨b, 0, none⟩), .agg #[.int .i64 T, .int .i64 V], .int .i64 p] w (ErrP 76 b sz (putL sz z T V p).1 (putL sz z T V p).2 w) := by
  have hb := h.lt
  have HW0 := Lib.hid h
  have HW1 := Lib.hid (h.keepN (World.grownBy_alloc w (.cells #[.int .i64 T, .int .i64 V] 33) none))
  have B1 := (Below.refl w.heap.size w).alloc (Nat.le_refl _) (.cells #[.int .i64 T, .int .i64 V] 33)
  have hnew := Lib.hid (heap_new w (.cells #[.int .i64 T, .int .i64 V] 33))
  have s1 : w.heap.size < (w.alloc (.cells #[.int .i64 T, .int .i64 V] 33)).heap.size := by simp
  have h64 := Lib.hid h.all64
  obtain ⟨a, cap, hc0, hl0⟩ := h
  have HC : Hid ((w.alloc (.cells #[.int .i64 T, .int .i64 V] 33)).heap[b]? = _) := Lib.hid (heap_old hc0)
  by_cases hbad : T < 0 ∨ 1099511627776 ≤ T
  · have HRES := Lib.hid (show putL sz z T V p = (1, z) from by unfold putL; rw [if_pos hbad])
    clear hc0 hl0
    rcases hbad with hbad | hbad
    all_goals
      go_enter Tryz.func68, Tryz.ntmps68
      go_wp2_with fail
      generalize w.alloc (.cells #[.int .i64 T, .int .i64 V] 33) = W1 at *
      have t0 : W1.cell? ⟨w.heap.size, 0, none⟩ = some (.int .i64 T) := by rw [cell_of hnew.out]; rfl
      refine (isNone_no b sz _ _ HC.out hs).mono ?_
      rintro e w' ⟨rfl, rfl⟩
      go_wp2
      go_ret
      exact ⟨by rw [HRES.out]; rfl, by rw [HRES.out]; exact HW1.out, gb_below B1⟩
  have hT0 : 0 ≤ T := by omega
  have hT1 : T < 1099511627776 := by omega
  have HPU := Lib.hid (show putL sz z T V p = if (newV z T V p).2 ≠ 0 then ((newV z T V p).2, z) else (tookE sz (insL z T (newV z T V p).1), tookL sz z (insL z T (newV z T V p).1)) from by
    unfold putL tookE tookL; rw [if_neg hbad]
    by_cases e1 : (newV z T V p).2 ≠ 0
    · rw [if_pos e1, if_pos e1]
    · rw [if_neg e1, if_neg e1]; split <;> rfl)
  have hk := bef_le z T
  have hu := upt_le z T
  have hku := bef_le_upt hr T
  have hku1 := upt_le_bef hr T
  have HR := Lib.hid hr
  have HLD0 := Lib.hid (hl0.keepN (World.grownBy_alloc w (.cells #[.int .i64 T, .int .i64 V] 33) none))
  have HLD : Hid (Lst (w.alloc (.cells #[.int .i64 T, .int .i64 V] 33)).drew a z.length cap z) := HLD0
  clear HLD0
  obtain ⟨a1, hs1, LA⟩ := lst_to hl0 (bef z T) hk
  obtain ⟨a2, hs2', LB⟩ := lst_from hl0 (upt z T) hu
  have HLA := Lib.hid LA
  have HLB := Lib.hid LB
  have hnl0 : ∀ v, (insL z T v).length ≤ 1048576 := fun v => by rw [insL_length z T v hr]; omega
  have HNL := Lib.hid hnl0
  have HFL0 := Lib.hid (show ∀ v, [z.take (bef z T), [(T, v)], z.drop (upt z T)].flatten = insL z T v from fun v => flat_three _ _ _)
  have HNV := Lib.hid (show newV z T V p = if bef z T < upt z T then mergeS p (vOf z (bef z T)) V else (V, 0) from rfl)
  have HVIN := Lib.hid (newV_in (t := T) (p := p) h64.out hV)
  have HHL := Lib.hid hl0
  clear hc0 hl0 LA LB hnl0 hr hbad
  by_cases hat : bef z T < upt z T
  · obtain ⟨x, er, M⟩ : ∃ x er, Hid (mergeS p (vOf z (bef z T)) V = (x, er)) := ⟨_, _, Lib.hid rfl⟩
    have HV0 := Lib.hid (show newV z T V p = (x, er) from by rw [HNV.out, if_pos hat, M.out])
    have hkn : bef z T + (z.length - upt z T) + 1 = z.length := by omega
    have HKN := Lib.hid hkn
    have hkl : bef z T < z.length := by omega
    have hV' : in64 x := by have := HVIN.out; rw [HV0.out] at this; exact this
    obtain ⟨pp, oo, rfl, hpp, x0, x1⟩ := HHL.out.1.at_ (bef z T) hkl
    have HX1 := Lib.hid x1
    have HMG := Lib.hid (show ∀ W, Calls Tryz.prog 86 #[.int .i64 p, .int .i64 (vOf z (bef z T)), .int .i64 V] W fun e w' => e = .returned (.tuple #[.int .i64 x, .int .i64 er]) ∧ W = w' from fun W => by
      have := merge_any p (vOf z (bef z T)) V W (all64_at h64.out _).2 hV
      rw [M.out] at this; exact this)
    clear hkn hat HNV x0 x1 hV
    go_enter Tryz.func68, Tryz.ntmps68
    go_wp2_with fail
    generalize w.alloc (.cells #[.int .i64 T, .int .i64 V] 33) = W1 at *
    have t0 : W1.cell? ⟨w.heap.size, 0, none⟩ = some (.int .i64 T) := by rw [cell_of hnew.out]; rfl
    have t1 : W1.cell? ⟨w.heap.size, 1, none⟩ = some (.int .i64 V) := by rw [cell_of hnew.out]; rfl
    have c1 : W1.cell? ⟨b, 1, none⟩ = some (.slice (some ⟨pp, oo, none⟩) z.length cap) := by rw [cell_of HC.out]; rfl
    have hb1 : b < W1.heap.size := by omega
    refine (isNone_no b sz _ _ HC.out hs).mono ?_
    rintro e w' ⟨rfl, rfl⟩
    go_wp2_with fail
    go_region_held3 (fun w' => w'.cell? ⟨b, 1, none⟩ = some (.slice (some ⟨pp, oo, none⟩) z.length cap) ∧ w'.cell? ⟨w.heap.size, 0, none⟩ = some (.int .i64 T))
      (first
        | go_keep
        | (go_split_ands
           refine ⟨?_, ?_⟩
           · (rw [b6.cell (by simpa using hb1)]; assumption)
           · (rw [b6.cell (by simpa using s1)]; assumption))
        | (go_split_ands
           refine ⟨?_, ?_⟩
           · (rw [b7.cell (by have := b6.size; simp at this ⊢; omega)]; assumption)
           · (rw [b7.cell (by have := b6.size; simp at this ⊢; omega)]; assumption)))
      (first
        | (go_at_call 56
           (with_reducible refine (before_any (some ⟨pp, oo, none⟩) z.length cap z T _ HLD.out HR.out (by omega)).mono ?_)
           rintro e W6 ⟨rfl, b6⟩)
        | (go_at_call 57
           (with_reducible refine (upTo_any (some ⟨pp, oo, none⟩) z.length cap z T _ (HLD.out.keepB b6) HR.out (by omega)).mono ?_)
           rintro e W7 ⟨rfl, b7⟩))
    clear t0 t1 c1
    have g7 : W1.grownBy W7 none := gb_trans (gb_trans (Drew.gb (w := W1) (w' := W1.drew) ⟨1, rfl⟩ none) (gb_below b6)) (gb_below b7)
    have B7 := bel_gbn B1 (Nat.le_of_lt s1) g7
    have s7 : w.heap.size < W7.heap.size := Nat.lt_of_lt_of_le s1 g7.size
    have hnew7 : Hid (W7.heap[w.heap.size]? = some (.cells #[.int .i64 T, .int .i64 V] 33 (0, 0))) := by have := (gb_below_none g7).block w.heap.size s1; exact this.trans hnew.out
    have t0 : W7.cell? ⟨w.heap.size, 0, none⟩ = some (.int .i64 T) := by rw [cell_of hnew7.out]; rfl
    have t1 : W7.cell? ⟨w.heap.size, 1, none⟩ = some (.int .i64 V) := by rw [cell_of hnew7.out]; rfl
    have c1 : W7.cell? ⟨b, 1, none⟩ = some (.slice (some ⟨pp, oo, none⟩) z.length cap) := by rw [(gb_below_none g7).cell hb1, cell_of HC.out]; rfl
    clear b6 b7 HLD hs1 hs2' g7 B1 HC HW1 hnew hb1 s1
    clear W6 W1
    have hkn := HKN.out
    have x1 : W7.cell? ⟨pp, oo + bef z T * 2 + 1, none⟩ = some (.int .i64 (vOf z (bef z T))) := by rw [B7.cell hpp]; exact HX1.out
    have hsum : ((bef z T : Nat) : Int) + ((z.length - upt z T : Nat) : Int) < (z.length : Int) := by omega
    have hsum' : bef z T + (z.length - upt z T) < z.length := by omega
    have hk0 : (0 : Int) ≤ ((bef z T : Nat) : Int) := by omega
    have hk1 : ((bef z T : Nat) : Int) < (z.length : Int) := by omega
    clear HX1 HKN hku hku1 hu hk
    generalize vOf z (bef z T) = v0 at *
    generalize bef z T = k at *
    generalize z.length - upt z T = m at *
    generalize cap - upt z T = c2 at *
    go_wp2_with fail
    go_quiet ((go_at_call 86; with_reducible exact quietL (HMG.out _)))
    have B8 := bel_gbn B7 (Nat.le_of_lt s7) (Drew.gb (w := W7) (w' := W7.drewN nq) ⟨nq, rfl⟩ none)
    have s8 : w.heap.size < (W7.drewN nq).heap.size := s7
    have hnew8 : Hid ((W7.drewN nq).heap[w.heap.size]? = some (.cells #[.int .i64 T, .int .i64 V] 33 (0, 0))) := hnew7
    clear B7 s7 hnew7 t0 t1 c1 x1
    generalize W7.drewN nq = W8 at *
    by_cases her : er = 0
    · subst her
      have HRES := Lib.hid (show putL sz z T V p = (tookE sz (insL z T x), tookL sz z (insL z T x)) from by rw [HPU.out, HV0.out]; simp)
      have hnl := HNL.out x
      have HFL := Lib.hid (HFL0.out x)
      have t0 : W8.cell? ⟨w.heap.size, 0, none⟩ = some (.int .i64 T) := by rw [cell_of hnew8.out]; rfl
      have t1 : W8.cell? ⟨w.heap.size, 1, none⟩ = some (.int .i64 V) := by rw [cell_of hnew8.out]; rfl
      have f1 := frozen_of (o := 1) hnew8.out
      have B5 := B8.setCell (p := ⟨w.heap.size, 1, none⟩) (Nat.le_refl _) (.int .i64 x)
      have s5 : w.heap.size < (W8.setCell ⟨w.heap.size, 1, none⟩ (.int .i64 x)).heap.size := by simp [World.setCell]; exact s8
      have hnew5 := heap_set (o := 1) (v := .int .i64 x) hnew8.out
      have u0 : (W8.setCell ⟨w.heap.size, 1, none⟩ (.int .i64 x)).cell? ⟨w.heap.size, 0, none⟩ = some (.int .i64 T) := by rw [cell_of hnew5]; rfl
      have u1 : (W8.setCell ⟨w.heap.size, 1, none⟩ (.int .i64 x)).cell? ⟨w.heap.size, 1, none⟩ = some (.int .i64 x) := by rw [cell_of hnew5]; rfl
      clear hnew5 HPU HV0
      generalize hW5 : W8.setCell ⟨w.heap.size, 1, none⟩ (.int .i64 x) = W5 at *
      have HW5 := Lib.hid hW5
      have HS5 := Lib.hid (show W8.heap.size = W5.heap.size from by rw [← hW5]; simp [World.setCell])
      clear hW5
      go_wp2_with fail
      rw [HW5.out, HS5.out]
      have HPT := Lib.hid (parts_three (T := T) (V := x) (HLA.out.keepB B5) (HLB.out.keepB B5) hT hV')
      have g9 := gb_alloc (gb_alloc (gb_refl W5 none) (.cells #[.int .i64 T, .int .i64 x] 33)) (.cells #[.slice a1 k cap, .slice (some ⟨W5.heap.size, 0, none⟩) 1 1, .slice a2 m c2] 53)
      have s9 : W5.heap.size + 1 < ((W5.alloc (.cells #[.int .i64 T, .int .i64 x] 33)).alloc (.cells #[.slice a1 k cap, .slice (some ⟨W5.heap.size, 0, none⟩) 1 1, .slice a2 m c2] 53)).heap.size := by simp
      generalize (W5.alloc (.cells #[.int .i64 T, .int .i64 x] 33)).alloc (.cells #[.slice a1 k cap, .slice (some ⟨W5.heap.size, 0, none⟩) 1 1, .slice a2 m c2] 53) = W9 at *
      refine (laid_any (W5.heap.size + 1) _ _ _ 3 W9 rfl HPT.out s9 (by rw [HFL.out]; exact hnl) (by omega)).mono ?_
      rintro e W10 ⟨a10, cap10, rfl, hl10, b10⟩
      rw [HFL.out] at hl10 ⊢
      have g10 : W5.grownBy W10 none := gb_trans g9 (gb_below b10)
      have B10 := bel_gbn B5 (Nat.le_of_lt s5) g10
      have hp10 := HW0.out.keepB B10
      clear b10 g9 s9 HPT g10
      go_wp2_with fail
      refine (take_ok b sz z _ a10 cap10 W10 hp10 hs hs2 hl10 hnl).mono ?_
      rintro e W11 ⟨rfl, hp11, g11⟩
      have G11 := gb_trans (gb_below B10) g11
      clear g11 hp10 hl10 B10
      go_wp2
      go_ret
      exact ⟨by rw [HRES.out]; rfl, by rw [HRES.out]; exact hp11, G11⟩
    · have hne : (er != 0) = true := by rw [bne_iff_ne]; exact her
      have HRES := Lib.hid (show putL sz z T V p = (er, z) from by rw [HPU.out, HV0.out]; rw [if_pos her])
      clear her
      go_wp2
      go_ret
      exact ⟨by rw [HRES.out]; rfl, by rw [HRES.out]; exact HW0.out.keepB B8, gb_below B8⟩
  · have HV0 := Lib.hid (show newV z T V p = (V, 0) from by rw [HNV.out, if_neg hat])
    have HRES := Lib.hid (show putL sz z T V p = (tookE sz (insL z T V), tookL sz z (insL z T V)) from by rw [HPU.out, HV0.out]; simp)
    have hnl := HNL.out V
    have HFL := Lib.hid (HFL0.out V)
    have hV' := hV
    have hkn : bef z T + (z.length - upt z T) = z.length := by omega
    have HKN := Lib.hid hkn
    clear hkn hat HNV HPU
    go_enter Tryz.func68, Tryz.ntmps68
    go_wp2_with fail
    generalize w.alloc (.cells #[.int .i64 T, .int .i64 V] 33) = W1 at *
    have t0 : W1.cell? ⟨w.heap.size, 0, none⟩ = some (.int .i64 T) := by rw [cell_of hnew.out]; rfl
    have t1 : W1.cell? ⟨w.heap.size, 1, none⟩ = some (.int .i64 V) := by rw [cell_of hnew.out]; rfl
    have c1 : W1.cell? ⟨b, 1, none⟩ = some (.slice a z.length cap) := by rw [cell_of HC.out]; rfl
    have hb1 : b < W1.heap.size := by omega
    refine (isNone_no b sz _ _ HC.out hs).mono ?_
    rintro e w' ⟨rfl, rfl⟩
    go_wp2_with fail
    go_region_held3 (fun w' => w'.cell? ⟨b, 1, none⟩ = some (.slice a z.length cap) ∧ w'.cell? ⟨w.heap.size, 0, none⟩ = some (.int .i64 T))
      (first
        | go_keep
        | (go_split_ands
           refine ⟨?_, ?_⟩
           · (rw [b6.cell (by simpa using hb1)]; assumption)
           · (rw [b6.cell (by simpa using s1)]; assumption))
        | (go_split_ands
           refine ⟨?_, ?_⟩
           · (rw [b7.cell (by have := b6.size; simp at this ⊢; omega)]; assumption)
           · (rw [b7.cell (by have := b6.size; simp at this ⊢; omega)]; assumption)))
      (first
        | (go_at_call 56
           (with_reducible refine (before_any a z.length cap z T _ HLD.out HR.out (by omega)).mono ?_)
           rintro e W6 ⟨rfl, b6⟩)
        | (go_at_call 57
           (with_reducible refine (upTo_any a z.length cap z T _ (HLD.out.keepB b6) HR.out (by omega)).mono ?_)
           rintro e W7 ⟨rfl, b7⟩))
    clear t0 t1 c1
    have g7 : W1.grownBy W7 none := gb_trans (gb_trans (Drew.gb (w := W1) (w' := W1.drew) ⟨1, rfl⟩ none) (gb_below b6)) (gb_below b7)
    have B7 := bel_gbn B1 (Nat.le_of_lt s1) g7
    have s7 : w.heap.size < W7.heap.size := Nat.lt_of_lt_of_le s1 g7.size
    have hnew7 : Hid (W7.heap[w.heap.size]? = some (.cells #[.int .i64 T, .int .i64 V] 33 (0, 0))) := by have := (gb_below_none g7).block w.heap.size s1; exact this.trans hnew.out
    have t0 : W7.cell? ⟨w.heap.size, 0, none⟩ = some (.int .i64 T) := by rw [cell_of hnew7.out]; rfl
    have t1 : W7.cell? ⟨w.heap.size, 1, none⟩ = some (.int .i64 V) := by rw [cell_of hnew7.out]; rfl
    have c1 : W7.cell? ⟨b, 1, none⟩ = some (.slice a z.length cap) := by rw [(gb_below_none g7).cell hb1, cell_of HC.out]; rfl
    clear b6 b7 HLD hs1 hs2' g7 B1 HC HW1 hnew hb1 s1
    clear W6 W1
    have hkn := HKN.out
    have hsum : ¬ ((bef z T : Nat) : Int) + ((z.length - upt z T : Nat) : Int) < (z.length : Int) := by omega
    generalize bef z T = k at *
    generalize z.length - upt z T = m at *
    generalize cap - upt z T = c2 at *
    generalize W7 = W5 at *
    have B5 := B7
    have s5 := s7
    clear B7 s7
    go_wp2_with fail
    have HPT := Lib.hid (parts_three (T := T) (V := V) (HLA.out.keepB B5) (HLB.out.keepB B5) hT hV')
    have g9 := gb_alloc (gb_alloc (gb_refl W5 none) (.cells #[.int .i64 T, .int .i64 V] 33)) (.cells #[.slice a1 k cap, .slice (some ⟨W5.heap.size, 0, none⟩) 1 1, .slice a2 m c2] 53)
    have s9 : W5.heap.size + 1 < ((W5.alloc (.cells #[.int .i64 T, .int .i64 V] 33)).alloc (.cells #[.slice a1 k cap, .slice (some ⟨W5.heap.size, 0, none⟩) 1 1, .slice a2 m c2] 53)).heap.size := by simp
    generalize (W5.alloc (.cells #[.int .i64 T, .int .i64 V] 33)).alloc (.cells #[.slice a1 k cap, .slice (some ⟨W5.heap.size, 0, none⟩) 1 1, .slice a2 m c2] 53) = W9 at *
    refine (laid_any (W5.heap.size + 1) _ _ _ 3 W9 rfl HPT.out s9 (by rw [HFL.out]; exact hnl) (by omega)).mono ?_
    rintro e W10 ⟨a10, cap10, rfl, hl10, b10⟩
    rw [HFL.out] at hl10 ⊢
    have g10 : W5.grownBy W10 none := gb_trans g9 (gb_below b10)
    have B10 := bel_gbn B5 (Nat.le_of_lt s5) g10
    have hp10 := HW0.out.keepB B10
    clear b10 g9 s9 HPT g10
    go_wp2_with fail
    refine (take_ok b sz z _ a10 cap10 W10 hp10 hs hs2 hl10 hnl).mono ?_
    rintro e W11 ⟨rfl, hp11, g11⟩
    have G11 := gb_trans (gb_below B10) g11
    clear g11 hp10 hl10 B10
    go_wp2
    go_ret
    exact ⟨by rw [HRES.out]; rfl, by rw [HRES.out]; exact hp11, G11⟩

end Go.Proofs.YtpbhdlhbcfkhfaaGreat
