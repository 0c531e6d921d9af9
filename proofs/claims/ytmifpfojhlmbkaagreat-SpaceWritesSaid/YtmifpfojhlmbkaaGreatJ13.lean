/-
  Contracts.
-/
import Derived.Test.YtmifpfojhlmbkaaGreatJ7
import Derived.Test.YtmifpfojhlmbkaaGreatJ9
import Derived.Test.YtmifpfojhlmbkaaGreatJ10
import Derived.Test.YtmifpfojhlmbkaaGreatJ11
import Derived.Test.YtmifpfojhlmbkaaGreatJ12
import Derived.Laws.AppendOwn
import Derived.Laws.OwnMore
namespace Go.Proofs.YtmifpfojhlmbkaaGreat
open Lib (hid)
set_option maxRecDepth 100000
set_option maxHeartbeats 16000000
open Go.RowKit
set_option linter.unusedVariables false
set_option linter.unusedSimpArgs false
theorem parts_three {w : World} {a1 a2 : Option Addr} {k m c1 c2 : Nat} {x y : List (Int × Int)} {T V : Int} (h1 : Lst w a1 k c1 x) (h2 : Lst w a2 m c2 y) (hT : in64 T) (hV : in64 V) :
    PartsAt ((w.alloc (.cells #[.int .i64 T, .int .i64 V] 27)).alloc (.cells #[.slice a1 k c1, .slice (some ⟨w.heap.size, 0, none⟩) 1 1, .slice a2 m c2] 52)) (w.heap.size + 1)
      [x, [(T, V)], y] (fun i => if i = 0 then a1 else if i = 1 then some ⟨w.heap.size, 0, none⟩ else a2) (fun i => if i = 0 then c1 else if i = 1 then 1 else c2) := by
  obtain rfl := h1.len
  obtain rfl := h2.len
  have hn := heap_new (w.alloc (.cells #[.int .i64 T, .int .i64 V] 27)) (.cells #[.slice a1 x.length c1, .slice (some ⟨w.heap.size, 0, none⟩) 1 1, .slice a2 y.length c2] 52)
  rw [show (w.alloc (.cells #[.int .i64 T, .int .i64 V] 27)).heap.size = w.heap.size + 1 from by simp] at hn
  have h1' := (h1.keepN (World.grownBy_alloc w (.cells #[.int .i64 T, .int .i64 V] 27) none)).keepN (World.grownBy_alloc _ (.cells #[.slice a1 x.length c1, .slice (some ⟨w.heap.size, 0, none⟩) 1 1, .slice a2 y.length c2] 52) none)
  have h2' := (h2.keepN (World.grownBy_alloc w (.cells #[.int .i64 T, .int .i64 V] 27) none)).keepN (World.grownBy_alloc _ (.cells #[.slice a1 x.length c1, .slice (some ⟨w.heap.size, 0, none⟩) 1 1, .slice a2 y.length c2] 52) none)
  have h3' : Lst ((w.alloc (.cells #[.int .i64 T, .int .i64 V] 27)).alloc (.cells #[.slice a1 x.length c1, .slice (some ⟨w.heap.size, 0, none⟩) 1 1, .slice a2 y.length c2] 52)) (some ⟨w.heap.size, 0, none⟩) 1 1 [(T, V)] :=
    lst_whole (all64_one hT hV) rfl (by omega) (heap_old (heap_new w _))
  intro i hi
  rcases (show i = 0 ∨ i = 1 ∨ i = 2 by simp at hi; omega) with rfl | rfl | rfl
  · exact ⟨by rw [cell_of hn]; rfl, h1'⟩
  · exact ⟨by rw [cell_of hn]; rfl, h3'⟩
  · exact ⟨by rw [cell_of hn]; rfl, h2'⟩
theorem flat_three (x y : List (Int × Int)) (s : Int × Int) : [x, [s], y].flatten = x ++ [s] ++ y := by simp
theorem put_ok4 (b : Nat) (sz : Int) (z : List (Int × Int)) (T V p : Int) (w : World) (h : PCk w b sz z) (hs : 1 ≤ sz) (hs2 : sz ≤ 4096) (hr : Rising z) (hn : z.length < 1048576) (hT : in64 T) (hV : in64 V) :
    Calls Tryz.prog 282 #[.pointer (some ⟨b, 0, none⟩), .agg #[.int .i64 T, .int .i64 V], .int .i64 p] w (ErrP 202 b sz (putL sz z T V p).1 (putL sz z T V p).2 w) := by
  have hb := h.lt
  have HW0 := hid h
  have HW1 := hid (h.keepN (World.grownBy_alloc w (.cells #[.int .i64 T, .int .i64 V] 27) none))
  have B1 := (Below.refl w.heap.size w).alloc (Nat.le_refl _) (.cells #[.int .i64 T, .int .i64 V] 27)
  have hnew := hid (heap_new w (.cells #[.int .i64 T, .int .i64 V] 27))
  have s1 : w.heap.size < (w.alloc (.cells #[.int .i64 T, .int .i64 V] 27)).heap.size := by simp
  have h64 := hid h.all64
  obtain ⟨a, cap, hc0, hl0⟩ := h
  have HC : Hid ((w.alloc (.cells #[.int .i64 T, .int .i64 V] 27)).heap[b]? = _) := hid (heap_old hc0)
  by_cases hbad : T < 0 ∨ 1099511627776 ≤ T
  · have HRES := hid (show putL sz z T V p = (1, z) from by unfold putL; rw [if_pos hbad])
    clear hc0 hl0
    rcases hbad with hbad | hbad
    all_goals
      go_enter Tryz.func282, Tryz.ntmps282
      go_wp2_with fail
      generalize w.alloc (.cells #[.int .i64 T, .int .i64 V] 27) = W1 at *
      have t0 : W1.cell? ⟨w.heap.size, 0, none⟩ = some (.int .i64 T) := by rw [cell_of hnew.out]; rfl
      refine (isNone_no b sz _ _ HC.out hs).mono ?_
      rintro e w' ⟨rfl, rfl⟩
      go_wp2
      go_ret
      exact ⟨by rw [HRES.out]; rfl, by rw [HRES.out]; exact HW1.out, gb_below B1⟩
  have hT0 : 0 ≤ T := by omega
  have hT1 : T < 1099511627776 := by omega
  have HPU := hid (show putL sz z T V p = if (newV z T V p).2 ≠ 0 then ((newV z T V p).2, z) else (tookE sz (insL z T (newV z T V p).1), tookL sz z (insL z T (newV z T V p).1)) from by
    unfold putL tookE tookL; rw [if_neg hbad]
    by_cases e1 : (newV z T V p).2 ≠ 0
    · rw [if_pos e1, if_pos e1]
    · rw [if_neg e1, if_neg e1]; split <;> rfl)
  have hk := bef_le z T
  have hu := upt_le z T
  have hku := bef_le_upt hr T
  have hku1 := upt_le_bef hr T
  have HR := hid hr
  have HLD0 := hid (hl0.keepN (World.grownBy_alloc w (.cells #[.int .i64 T, .int .i64 V] 27) none))
  have HLD : Hid (Lst (w.alloc (.cells #[.int .i64 T, .int .i64 V] 27)).drew a z.length cap z) := HLD0
  clear HLD0
  obtain ⟨a1, hs1, LA⟩ := lst_to hl0 (bef z T) hk
  obtain ⟨a2, hs2', LB⟩ := lst_from hl0 (upt z T) hu
  have HLA := hid LA
  have HLB := hid LB
  have hnl0 : ∀ v, (insL z T v).length ≤ 1048576 := fun v => by rw [insL_length z T v hr]; omega
  have HNL := hid hnl0
  have HFL0 := hid (show ∀ v, [z.take (bef z T), [(T, v)], z.drop (upt z T)].flatten = insL z T v from fun v => flat_three _ _ _)
  have HNV := hid (show newV z T V p = if bef z T < upt z T then mergeS p (vOf z (bef z T)) V else (V, 0) from rfl)
  have HVIN := hid (newV_in (t := T) (p := p) h64.out hV)
  have HHL := hid hl0
  clear hc0 hl0 LA LB hnl0 hr hbad
  by_cases hat : bef z T < upt z T
  · obtain ⟨x, er, M⟩ : ∃ x er, Hid (mergeS p (vOf z (bef z T)) V = (x, er)) := ⟨_, _, hid rfl⟩
    have HV0 := hid (show newV z T V p = (x, er) from by rw [HNV.out, if_pos hat, M.out])
    have hkn : bef z T + (z.length - upt z T) + 1 = z.length := by omega
    have HKN := hid hkn
    have hkl : bef z T < z.length := by omega
    have hV' : in64 x := by have := HVIN.out; rw [HV0.out] at this; exact this
    obtain ⟨pp, oo, rfl, hpp, x0, x1⟩ := HHL.out.1.at_ (bef z T) hkl
    have HX1 := hid x1
    have HMG := hid (show ∀ W, Calls Tryz.prog 323 #[.int .i64 p, .int .i64 (vOf z (bef z T)), .int .i64 V] W fun e w' => e = .returned (.tuple #[.int .i64 x, .int .i64 er]) ∧ W = w' from fun W => by
      have := merge_any p (vOf z (bef z T)) V W (all64_at h64.out _).2 hV
      rw [M.out] at this; exact this)
    clear hkn hat HNV x0 x1 hV
    go_enter Tryz.func282, Tryz.ntmps282
    go_wp2_with fail
    generalize w.alloc (.cells #[.int .i64 T, .int .i64 V] 27) = W1 at *
    have t0 : W1.cell? ⟨w.heap.size, 0, none⟩ = some (.int .i64 T) := by rw [cell_of hnew.out]; rfl
    have t1 : W1.cell? ⟨w.heap.size, 1, none⟩ = some (.int .i64 V) := by rw [cell_of hnew.out]; rfl
    have c1 : W1.cell? ⟨b, 1, none⟩ = some (.slice (some ⟨pp, oo, none⟩) z.length cap) := by rw [cell_of HC.out]; rfl
    have hb1 : b < W1.heap.size := by omega
    refine (isNone_no b sz _ _ HC.out hs).mono ?_
    rintro e w' ⟨rfl, rfl⟩
    go_wp2_with fail
    go_region_held3 (fun w' => w'.cell? ⟨b, 1, none⟩ = some (.slice (some ⟨pp, oo, none⟩) z.length cap) ∧ w'.cell? ⟨w.heap.size, 0, none⟩ = some (.int .i64 T))
      (first
        | go_keep
        | (go_split_ands
           refine ⟨?_, ?_⟩
           · (rw [b6.cell (by simpa using hb1)]; assumption)
           · (rw [b6.cell (by simpa using s1)]; assumption))
        | (go_split_ands
           refine ⟨?_, ?_⟩
           · (rw [b7.cell (by have := b6.size; simp at this ⊢; omega)]; assumption)
           · (rw [b7.cell (by have := b6.size; simp at this ⊢; omega)]; assumption)))
      (first
        | (go_at_call 137
           (with_reducible refine (before_any (some ⟨pp, oo, none⟩) z.length cap z T _ HLD.out HR.out (by omega)).mono ?_)
           rintro e W6 ⟨rfl, b6⟩)
        | (go_at_call 210
           (with_reducible refine (upTo_any (some ⟨pp, oo, none⟩) z.length cap z T _ (HLD.out.keepB b6) HR.out (by omega)).mono ?_)
           rintro e W7 ⟨rfl, b7⟩))
    clear t0 t1 c1
    have g7 : W1.grownBy W7 none := gb_trans (gb_trans (Drew.gb (w := W1) (w' := W1.drew) ⟨1, rfl⟩ none) (gb_below b6)) (gb_below b7)
    have B7 := bel_gbn B1 (Nat.le_of_lt s1) g7
    have s7 : w.heap.size < W7.heap.size := Nat.lt_of_lt_of_le s1 g7.size
    have hnew7 : Hid (W7.heap[w.heap.size]? = some (.cells #[.int .i64 T, .int .i64 V] 27 (0, 0))) := by have := (gb_below_none g7).block w.heap.size s1; exact this.trans hnew.out
    have t0 : W7.cell? ⟨w.heap.size, 0, none⟩ = some (.int .i64 T) := by rw [cell_of hnew7.out]; rfl
    have t1 : W7.cell? ⟨w.heap.size, 1, none⟩ = some (.int .i64 V) := by rw [cell_of hnew7.out]; rfl
    have c1 : W7.cell? ⟨b, 1, none⟩ = some (.slice (some ⟨pp, oo, none⟩) z.length cap) := by rw [(gb_below_none g7).cell hb1, cell_of HC.out]; rfl
    clear b6 b7 HLD hs1 hs2' g7 B1 HC HW1 hnew hb1 s1
    clear W6 W1
    have hkn := HKN.out
    have x1 : W7.cell? ⟨pp, oo + bef z T * 2 + 1, none⟩ = some (.int .i64 (vOf z (bef z T))) := by rw [B7.cell hpp]; exact HX1.out
    have hsum : ((bef z T : Nat) : Int) + ((z.length - upt z T : Nat) : Int) < (z.length : Int) := by omega
    have hsum' : bef z T + (z.length - upt z T) < z.length := by omega
    have hk0 : (0 : Int) ≤ ((bef z T : Nat) : Int) := by omega
    have hk1 : ((bef z T : Nat) : Int) < (z.length : Int) := by omega
    clear HX1 HKN hku hku1 hu hk
    generalize vOf z (bef z T) = v0 at *
    generalize bef z T = k at *
    generalize z.length - upt z T = m at *
    generalize cap - upt z T = c2 at *
    go_wp2_with fail
    go_quiet ((go_at_call 323; with_reducible exact quietL (HMG.out _)))
    have B8 := bel_gbn B7 (Nat.le_of_lt s7) (Drew.gb (w := W7) (w' := W7.drewN nq) ⟨nq, rfl⟩ none)
    have s8 : w.heap.size < (W7.drewN nq).heap.size := s7
    have hnew8 : Hid ((W7.drewN nq).heap[w.heap.size]? = some (.cells #[.int .i64 T, .int .i64 V] 27 (0, 0))) := hnew7
    clear B7 s7 hnew7 t0 t1 c1 x1
    generalize W7.drewN nq = W8 at *
    by_cases her : er = 0
    · subst her
      have HRES := hid (show putL sz z T V p = (tookE sz (insL z T x), tookL sz z (insL z T x)) from by rw [HPU.out, HV0.out]; simp)
      have hnl := HNL.out x
      have HFL := hid (HFL0.out x)
      have t0 : W8.cell? ⟨w.heap.size, 0, none⟩ = some (.int .i64 T) := by rw [cell_of hnew8.out]; rfl
      have t1 : W8.cell? ⟨w.heap.size, 1, none⟩ = some (.int .i64 V) := by rw [cell_of hnew8.out]; rfl
      have f1 := frozen_of (o := 1) hnew8.out
      have B5 := B8.setCell (p := ⟨w.heap.size, 1, none⟩) (Nat.le_refl _) (.int .i64 x)
      have s5 : w.heap.size < (W8.setCell ⟨w.heap.size, 1, none⟩ (.int .i64 x)).heap.size := by simp [World.setCell]; exact s8
      have hnew5 := heap_set (o := 1) (v := .int .i64 x) hnew8.out
      have u0 : (W8.setCell ⟨w.heap.size, 1, none⟩ (.int .i64 x)).cell? ⟨w.heap.size, 0, none⟩ = some (.int .i64 T) := by rw [cell_of hnew5]; rfl
      have u1 : (W8.setCell ⟨w.heap.size, 1, none⟩ (.int .i64 x)).cell? ⟨w.heap.size, 1, none⟩ = some (.int .i64 x) := by rw [cell_of hnew5]; rfl
      clear hnew5 HPU HV0
      generalize hW5 : W8.setCell ⟨w.heap.size, 1, none⟩ (.int .i64 x) = W5 at *
      have HW5 := hid hW5
      have HS5 := hid (show W8.heap.size = W5.heap.size from by rw [← hW5]; simp [World.setCell])
      clear hW5
      go_wp2_with fail
      rw [HW5.out, HS5.out]
      have HPT := hid (parts_three (T := T) (V := x) (HLA.out.keepB B5) (HLB.out.keepB B5) hT hV')
      have g9 := gb_alloc (gb_alloc (gb_refl W5 none) (.cells #[.int .i64 T, .int .i64 x] 27)) (.cells #[.slice a1 k cap, .slice (some ⟨W5.heap.size, 0, none⟩) 1 1, .slice a2 m c2] 52)
      have s9 : W5.heap.size + 1 < ((W5.alloc (.cells #[.int .i64 T, .int .i64 x] 27)).alloc (.cells #[.slice a1 k cap, .slice (some ⟨W5.heap.size, 0, none⟩) 1 1, .slice a2 m c2] 52)).heap.size := by simp
      generalize (W5.alloc (.cells #[.int .i64 T, .int .i64 x] 27)).alloc (.cells #[.slice a1 k cap, .slice (some ⟨W5.heap.size, 0, none⟩) 1 1, .slice a2 m c2] 52) = W9 at *
      refine (laid_any (W5.heap.size + 1) _ _ _ 3 W9 rfl HPT.out s9 (by rw [HFL.out]; exact hnl) (by omega)).mono ?_
      rintro e W10 ⟨a10, cap10, rfl, hl10, b10⟩
      rw [HFL.out] at hl10 ⊢
      have g10 : W5.grownBy W10 none := gb_trans g9 (gb_below b10)
      have B10 := bel_gbn B5 (Nat.le_of_lt s5) g10
      have hp10 := HW0.out.keepB B10
      clear b10 g9 s9 HPT g10
      go_wp2_with fail
      refine (take_ok b sz z _ a10 cap10 W10 hp10 hs hs2 hl10 hnl).mono ?_
      rintro e W11 ⟨rfl, hp11, g11⟩
      have G11 := gb_trans (gb_below B10) g11
      clear g11 hp10 hl10 B10
      go_wp2
      go_ret
      exact ⟨by rw [HRES.out]; rfl, by rw [HRES.out]; exact hp11, G11⟩
    · have hne : (er != 0) = true := by rw [bne_iff_ne]; exact her
      have HRES := hid (show putL sz z T V p = (er, z) from by rw [HPU.out, HV0.out]; rw [if_pos her])
      clear her
      go_wp2
      go_ret
      exact ⟨by rw [HRES.out]; rfl, by rw [HRES.out]; exact HW0.out.keepB B8, gb_below B8⟩
  · have HV0 := hid (show newV z T V p = (V, 0) from by rw [HNV.out, if_neg hat])
    have HRES := hid (show putL sz z T V p = (tookE sz (insL z T V), tookL sz z (insL z T V)) from by rw [HPU.out, HV0.out]; simp)
    have hnl := HNL.out V
    have HFL := hid (HFL0.out V)
    have hV' := hV
    have hkn : bef z T + (z.length - upt z T) = z.length := by omega
    have HKN := hid hkn
    clear hkn hat HNV HPU
    go_enter Tryz.func282, Tryz.ntmps282
    go_wp2_with fail
    generalize w.alloc (.cells #[.int .i64 T, .int .i64 V] 27) = W1 at *
    have t0 : W1.cell? ⟨w.heap.size, 0, none⟩ = some (.int .i64 T) := by rw [cell_of hnew.out]; rfl
    have t1 : W1.cell? ⟨w.heap.size, 1, none⟩ = some (.int .i64 V) := by rw [cell_of hnew.out]; rfl
    have c1 : W1.cell? ⟨b, 1, none⟩ = some (.slice a z.length cap) := by rw [cell_of HC.out]; rfl
    have hb1 : b < W1.heap.size := by omega
    refine (isNone_no b sz _ _ HC.out hs).mono ?_
    rintro e w' ⟨rfl, rfl⟩
    go_wp2_with fail
    go_region_held3 (fun w' => w'.cell? ⟨b, 1, none⟩ = some (.slice a z.length cap) ∧ w'.cell? ⟨w.heap.size, 0, none⟩ = some (.int .i64 T))
      (first
        | go_keep
        | (go_split_ands
           refine ⟨?_, ?_⟩
           · (rw [b6.cell (by simpa using hb1)]; assumption)
           · (rw [b6.cell (by simpa using s1)]; assumption))
        | (go_split_ands
           refine ⟨?_, ?_⟩
           · (rw [b7.cell (by have := b6.size; simp at this ⊢; omega)]; assumption)
           · (rw [b7.cell (by have := b6.size; simp at this ⊢; omega)]; assumption)))
      (first
        | (go_at_call 137
           (with_reducible refine (before_any a z.length cap z T _ HLD.out HR.out (by omega)).mono ?_)
           rintro e W6 ⟨rfl, b6⟩)
        | (go_at_call 210
           (with_reducible refine (upTo_any a z.length cap z T _ (HLD.out.keepB b6) HR.out (by omega)).mono ?_)
           rintro e W7 ⟨rfl, b7⟩))
    clear t0 t1 c1
    have g7 : W1.grownBy W7 none := gb_trans (gb_trans (Drew.gb (w := W1) (w' := W1.drew) ⟨1, rfl⟩ none) (gb_below b6)) (gb_below b7)
    have B7 := bel_gbn B1 (Nat.le_of_lt s1) g7
    have s7 : w.heap.size < W7.heap.size := Nat.lt_of_lt_of_le s1 g7.size
    have hnew7 : Hid (W7.heap[w.heap.size]? = some (.cells #[.int .i64 T, .int .i64 V] 27 (0, 0))) := by have := (gb_below_none g7).block w.heap.size s1; exact this.trans hnew.out
    have t0 : W7.cell? ⟨w.heap.size, 0, none⟩ = some (.int .i64 T) := by rw [cell_of hnew7.out]; rfl
    have t1 : W7.cell? ⟨w.heap.size, 1, none⟩ = some (.int .i64 V) := by rw [cell_of hnew7.out]; rfl
    have c1 : W7.cell? ⟨b, 1, none⟩ = some (.slice a z.length cap) := by rw [(gb_below_none g7).cell hb1, cell_of HC.out]; rfl
    clear b6 b7 HLD hs1 hs2' g7 B1 HC HW1 hnew hb1 s1
    clear W6 W1
    have hkn := HKN.out
    have hsum : ¬ ((bef z T : Nat) : Int) + ((z.length - upt z T : Nat) : Int) < (z.length : Int) := by omega
    generalize bef z T = k at *
    generalize z.length - upt z T = m at *
    generalize cap - upt z T = c2 at *
    generalize W7 = W5 at *
    have B5 := B7
    have s5 := s7
    clear B7 s7
    go_wp2_with fail
    have HPT := hid (parts_three (T := T) (V := V) (HLA.out.keepB B5) (HLB.out.keepB B5) hT hV')
    have g9 := gb_alloc (gb_alloc (gb_refl W5 none) (.cells #[.int .i64 T, .int .i64 V] 27)) (.cells #[.slice a1 k cap, .slice (some ⟨W5.heap.size, 0, none⟩) 1 1, .slice a2 m c2] 52)
    have s9 : W5.heap.size + 1 < ((W5.alloc (.cells #[.int .i64 T, .int .i64 V] 27)).alloc (.cells #[.slice a1 k cap, .slice (some ⟨W5.heap.size, 0, none⟩) 1 1, .slice a2 m c2] 52)).heap.size := by simp
    generalize (W5.alloc (.cells #[.int .i64 T, .int .i64 V] 27)).alloc (.cells #[.slice a1 k cap, .slice (some ⟨W5.heap.size, 0, none⟩) 1 1, .slice a2 m c2] 52) = W9 at *
    refine (laid_any (W5.heap.size + 1) _ _ _ 3 W9 rfl HPT.out s9 (by rw [HFL.out]; exact hnl) (by omega)).mono ?_
    rintro e W10 ⟨a10, cap10, rfl, hl10, b10⟩
    rw [HFL.out] at hl10 ⊢
    have g10 : W5.grownBy W10 none := gb_trans g9 (gb_below b10)
    have B10 := bel_gbn B5 (Nat.le_of_lt s5) g10
    have hp10 := HW0.out.keepB B10
    clear b10 g9 s9 HPT g10
    go_wp2_with fail
    refine (take_ok b sz z _ a10 cap10 W10 hp10 hs hs2 hl10 hnl).mono ?_
    rintro e W11 ⟨rfl, hp11, g11⟩
    have G11 := gb_trans (gb_below B10) g11
    clear g11 hp10 hl10 B10
    go_wp2
    go_ret
    exact ⟨by rw [HRES.out]; rfl, by rw [HRES.out]; exact hp11, G11⟩
theorem put_at (b : Nat) (sz : Int) (z : List (Int × Int)) (T V p : Int) (err : Int) (l : List (Int × Int)) (w : World) (hP : putL sz z T V p = (err, l)) (h : PCk w b sz z) (hs : 1 ≤ sz) (hs2 : sz ≤ 4096) (hr : Rising z) (hn : z.length < 1048576) (hT : in64 T) (hV : in64 V) :
    Calls Tryz.prog 282 #[.pointer (some ⟨b, 0, none⟩), .agg #[.int .i64 T, .int .i64 V], .int .i64 p] w (ErrP 202 b sz err l w) := by
  have := put_ok4 b sz z T V p w h hs hs2 hr hn hT hV
  rw [hP] at this
  exact this
theorem drop_at (b : Nat) (sz : Int) (z : List (Int × Int)) (x y : Int) (n : Int) (l : List (Int × Int)) (w : World) (hN : (dropN z x y : Int) = n) (hL : dropL z x y = l) (h : PCk w b sz z) (hs : 1 ≤ sz) (hr : Rising z) (hn : z.length ≤ 1048576) :
    Calls Tryz.prog 142 #[.pointer (some ⟨b, 0, none⟩), .int .i64 x, .int .i64 y] w (ErrP 202 b sz n l w) := by
  have := drop_ok b sz z x y w h hs hr hn
  rw [hN, hL] at this
  exact this
theorem end_at {z : List (Int × Int)} {i : Nat} {T V : Int} {r : Bool} {f : FuncId} {args : Array Value} {w : World} (hT : tOf z i = T) (hV : vOf z i = V) (hr : decide (0 < z.length) = r) (h : Calls Tryz.prog f args w (EndP z i w)) :
    Calls Tryz.prog f args w fun e w' => e = .returned (.tuple #[.agg #[.int .i64 T, .int .i64 V], .bool r]) ∧ Below w.heap.size w w' := by
  subst hT hV hr; exact h
theorem cnew_at (size : Int) (w : World) (h1 : 128 ≤ size) (h2 : size ≤ 4096) : Calls Tryz.prog 223 #[.int .i64 size] w fun e w' =>
    e = .returned (.tuple #[.pointer (some ⟨w.heap.size, 0, none⟩), .int .i64 0]) ∧ PCk w' w.heap.size size [] ∧ Below w.heap.size w w' ∧ w'.heap.size = w.heap.size + 1 := by
  refine (cnew_any size w).mono ?_
  rintro e w' (⟨h, _⟩ | ⟨_, _, h⟩)
  · exact absurd ⟨h1, h2⟩ h
  · exact h
theorem cnew_bad (size : Int) (w : World) (h : ¬ (128 ≤ size ∧ size ≤ 4096)) : Calls Tryz.prog 223 #[.int .i64 size] w fun e w' => e = .returned (.tuple #[.pointer none, .int .i64 1]) ∧ w = w' := by
  refine (cnew_any size w).mono ?_
  rintro e w' (⟨_, h'⟩ | ⟨a, b, _⟩)
  · exact h'
  · exact absurd ⟨a, b⟩ h
theorem putL_took (sz : Int) (z : List (Int × Int)) (t v p x : Int) (l : List (Int × Int)) (h0 : ¬ (t < 0 ∨ 1099511627776 ≤ t)) (hv : newV z t v p = (x, 0)) (hi : insL z t x = l) (h : 136 * (l.length : Int) ≤ 8 * sz) : putL sz z t v p = (0, l) := by
  have := bitsZ_le l
  unfold putL
  rw [if_neg h0, hv, if_neg (by simp), hi, if_neg (by omega)]
theorem bel_two {B b o : Nat} {w w1 w2 : World} (h : Below B w w1) (hB : B ≤ w1.heap.size) (hb : B ≤ b) (ho : B ≤ o) (g : TwoOnly b o w1 w2) : Below B w w2 :=
  ⟨g.1.trans h.os, g.2.1.trans h.tape, g.2.2.1.trans h.output, Nat.le_trans h.size g.2.2.2.1, fun i hi => (g.2.2.2.2 i (Nat.lt_of_lt_of_le hi hB) (by omega) (by omega)).trans (h.block i hi)⟩
def ptr (b : Nat) : Value := .pointer (some ⟨b, 0, none⟩)
def NoPtr (w : World) (r : Nat) : Prop := ∀ (cs : Array Value) (f : Nat × Nat), w.heap[r]? ≠ some (.cells cs 119 f)
theorem noPtr_of {w : World} {b : Nat} {c : Array Value} {t : TypeId} {f : Nat × Nat} (h : w.heap[b]? = some (.cells c t f)) (ht : t ≠ 119) : NoPtr w b := by
  intro c' f' h'
  rw [h] at h'
  simp at h'
  exact ht h'.2.1
theorem PCk.noPtr {w : World} {b : Nat} {sz : Int} {z : List (Int × Int)} (h : PCk w b sz z) : NoPtr w b := by
  obtain ⟨a, cap, hc, _⟩ := h; exact noPtr_of hc (by decide)
theorem PCk.noSamp {w : World} {b : Nat} {sz : Int} {z : List (Int × Int)} (h : PCk w b sz z) : NoSamp w b := CAt.no h (by decide)
def Ptrs (w : World) (a : Option Addr) (len cap : Nat) (bs : List Nat) : Prop :=
  bs.length = len ∧ len ≤ cap ∧ len ≤ 9223372036854775807 ∧
  (len = 0 ∨ ∃ b off cs f, a = some ⟨b, off, none⟩ ∧ w.heap[b]? = some (.cells cs 119 f) ∧ ∀ i (h : i < bs.length), cs[off + i]? = some (ptr bs[i]))
theorem Ptrs.nil (w : World) : Ptrs w none 0 0 [] := ⟨rfl, Nat.le_refl _, by omega, .inl rfl⟩
theorem Ptrs.len {w : World} {a : Option Addr} {len cap : Nat} {bs : List Nat} (h : Ptrs w a len cap bs) : bs.length = len := h.1
theorem Ptrs.keep {w w' : World} {a : Option Addr} {len cap : Nat} {bs : List Nat} {row : Option Nat} (h : Ptrs w a len cap bs) (g : w.grownBy w' row) (hr : ∀ r, row = some r → NoPtr w r) : Ptrs w' a len cap bs := by
  obtain ⟨h1, h2, h3, h4⟩ := h
  refine ⟨h1, h2, h3, ?_⟩
  rcases h4 with h0 | ⟨b, off, cs, f, rfl, hc, hi⟩
  · exact .inl h0
  · exact .inr ⟨b, off, cs, f, rfl, by rw [g.block b (heap_lt hc) (fun e => hr b e.symm cs f hc)]; exact hc, hi⟩
theorem Ptrs.keepN {w w' : World} {a : Option Addr} {len cap : Nat} {bs : List Nat} (h : Ptrs w a len cap bs) (g : w.grownBy w' none) : Ptrs w' a len cap bs := h.keep g (by simp)
theorem Ptrs.keepB {w w' : World} {a : Option Addr} {len cap : Nat} {bs : List Nat} (h : Ptrs w a len cap bs) (g : Below w.heap.size w w') : Ptrs w' a len cap bs := h.keepN (gb_below g)
theorem Ptrs.at_ {w : World} {a : Option Addr} {len cap : Nat} {bs : List Nat} (h : Ptrs w a len cap bs) (i : Nat) (hi : i < len) :
    ∃ b off, a = some ⟨b, off, none⟩ ∧ b < w.heap.size ∧ w.cell? ⟨b, off + i, none⟩ = some (ptr (bs.getD i 0)) := by
  obtain ⟨h1, h2, h3, h4⟩ := h
  rcases h4 with h0 | ⟨b, off, cs, f, rfl, hc, hx⟩
  · omega
  · refine ⟨b, off, rfl, heap_lt hc, ?_⟩
    rw [cell_of hc, hx i (by omega), List.getD_eq_getElem?_getD, List.getElem?_eq_getElem (by omega)]; rfl
theorem size_ptr (W : World) : (sizeOf (Tryz.prog.elem 116)).run Tryz.prog W = .ok 1 W := by kernel_rfl
theorem Ptrs.part {w : World} {a : Option Addr} {len cap : Nat} {bs : List Nat} (h : Ptrs w a len cap bs) (k m : Nat) (hkm : k ≤ m) (hm : m ≤ len) :
    Ptrs w (if cap = k then a else a.map (·.add (k * 1))) (m - k) (cap - k) (midL bs k m) := by
  obtain ⟨h1, h2, h3, h4⟩ := h
  refine ⟨by unfold midL; simp; omega, by omega, by omega, ?_⟩
  by_cases hz : m - k = 0
  · exact .inl hz
  · rcases h4 with h0 | ⟨b, off, cs, f, rfl, hc, hx⟩
    · omega
    · rw [if_neg (by omega)]
      refine .inr ⟨b, off + k, cs, f, by simp [Addr.add], hc, fun i hi => ?_⟩
      have hi' : i < m - k := by unfold midL at hi; simp at hi; omega
      rw [show off + k + i = off + (k + i) from by omega, hx (k + i) (by omega)]
      congr 1
      simp only [midL, List.getElem_drop, List.getElem_take]
theorem midL_to {α : Type} (l : List α) (m : Nat) : midL l 0 m = l.take m := by simp [midL]
theorem midL_from {α : Type} (l : List α) (k : Nat) : midL l k l.length = l.drop k := by simp [midL]
theorem ptrs_lh {w : World} {a : Option Addr} {len cap : Nat} {bs : List Nat} (h : Ptrs w a len cap bs) (k m : Nat) (hkm : k ≤ m) (hm : m ≤ len) :
    ∃ a', (∀ W : World, (Instr.slice 116 (.slice a len cap) (some (.int .i64 (k : Int))) (some (.int .i64 (m : Int))) none).run Tryz.prog W = .ok (.slice a' (m - k) (cap - k)) W) ∧ Ptrs w a' (m - k) (cap - k) (midL bs k m) := by
  have hc := h.2.1
  refine ⟨_, fun W => ?_, h.part k m hkm hm⟩
  rw [run_slice_lh W 116 _ _ _ (by kernel_rfl) .i64 .i64 (k : Int) (m : Int) (by omega) (by omega) (by omega), size_ptr]
  simp [Result.andThen, sliced]
theorem ptrs_l {w : World} {a : Option Addr} {len cap : Nat} {bs : List Nat} (h : Ptrs w a len cap bs) (k : Nat) (hk : k ≤ len) :
    ∃ a', (∀ W : World, (Instr.slice 116 (.slice a len cap) (some (.int .i64 (k : Int))) none none).run Tryz.prog W = .ok (.slice a' (len - k) (cap - k)) W) ∧ Ptrs w a' (len - k) (cap - k) (bs.drop k) := by
  have hc := h.2.1
  have hp := h.part k len hk (Nat.le_refl _)
  have hl := h.1
  refine ⟨_, fun W => ?_, by rw [← midL_from, hl]; exact hp⟩
  rw [run_slice_l W 116 _ _ _ (by kernel_rfl) .i64 (k : Int) (by omega) (by omega), size_ptr]
  simp [Result.andThen, sliced]
theorem ptrs_h {w : World} {a : Option Addr} {len cap : Nat} {bs : List Nat} (h : Ptrs w a len cap bs) (m : Nat) (hm : m ≤ len) :
    ∃ a', (∀ W : World, (Instr.slice 116 (.slice a len cap) none (some (.int .i64 (m : Int))) none).run Tryz.prog W = .ok (.slice a' m cap) W) ∧ Ptrs w a' m cap (bs.take m) := by
  have hc := h.2.1
  have hp := h.part 0 m (Nat.zero_le _) hm
  refine ⟨_, fun W => ?_, by rw [← midL_to]; exact hp⟩
  rw [run_slice_h W 116 _ _ _ (by kernel_rfl) .i64 (m : Int) (by omega) (by omega), size_ptr]
  simp [Result.andThen, sliced]
def PRow (w : World) (base : Nat) (v : Value) (bs : List Nat) : Prop := w.ownsRow base 119 1 v bs.length (bs.map ptr)
theorem PRow.nil (w : World) (base : Nat) : PRow w base (.slice none 0 0) [] := World.ownsRow_nil w base _ _
theorem PRow.shape {w : World} {base : Nat} {v : Value} {bs : List Nat} (h : PRow w base v bs) : ∃ a cap, v = .slice a bs.length cap ∧ Ptrs w a bs.length cap bs := by
  rcases h.2 with ⟨rfl, e⟩ | ⟨g, cap, cur, rfl, hb, hg, hle, hmx, hsz, htk⟩
  · have : bs = [] := List.eq_nil_of_length_eq_zero e
    subst this
    exact ⟨none, 0, rfl, Ptrs.nil w⟩
  · refine ⟨_, cap, rfl, rfl, hle, by unfold maxLen at hmx; omega, .inr ⟨g, 0, cur, (0, 0), rfl, hg, fun i hi => ?_⟩⟩
    have e : (cur.toList.take (bs.length * 1))[i]? = (bs.map ptr)[i]? := by rw [htk]
    rw [List.getElem?_take, if_pos (by omega), Array.getElem?_toList, List.getElem?_map, List.getElem?_eq_getElem hi] at e
    rw [Nat.zero_add]; exact e
theorem PRow.keep {w w' : World} {base : Nat} {v : Value} {bs : List Nat} {row : Option Nat} (h : PRow w base v bs) (g : w.grownBy w' row) (hr : ∀ r, row = some r → NoPtr w r) : PRow w' base v bs := by
  refine World.ownsRow.kept h g ?_
  rcases h.2 with ⟨rfl, e⟩ | ⟨g', cap, cur, rfl, hb, hg, _⟩
  · exact .inl rfl
  · refine .inr fun e => ?_
    exact hr g' (by simpa [Value.ownBlock] using e.symm) cur (0, 0) hg
theorem PRow.keepN {w w' : World} {base : Nat} {v : Value} {bs : List Nat} (h : PRow w base v bs) (g : w.grownBy w' none) : PRow w' base v bs := h.keep g (by simp)
theorem PRow.keepB {w w' : World} {base : Nat} {v : Value} {bs : List Nat} (h : PRow w base v bs) (g : Below w.heap.size w w') : PRow w' base v bs := h.keepN (gb_below g)
theorem PRow.base {w : World} {base base' : Nat} {v : Value} {bs : List Nat} (h : PRow w base v bs) (hb : base' ≤ base) : PRow w base' v bs := by
  refine ⟨h.1, ?_⟩
  rcases h.2 with h | ⟨g, cap, cur, e, hg, r⟩
  · exact .inl h
  · exact .inr ⟨g, cap, cur, e, Nat.le_trans hb hg, r⟩
theorem PRow.own {w : World} {base : Nat} {v : Value} {bs : List Nat} (h : PRow w base v bs) : ∀ r, v.ownBlock = some r → base ≤ r ∧ NoSamp w r ∧ ∃ cs f, w.heap[r]? = some (.cells cs 119 f) := by
  intro r hr
  rcases h.2 with ⟨rfl, e⟩ | ⟨g, cap, cur, rfl, hb, hg, _⟩
  · simp [Value.ownBlock] at hr
  · simp [Value.ownBlock] at hr
    subst hr
    exact ⟨hb, noSamp_of hg (by decide), _, _, hg⟩
theorem PRow.one (w : World) (base b : Nat) (hb : base ≤ w.heap.size) : PRow (w.alloc (.cells #[ptr b] 119)) base (.slice (some ⟨w.heap.size, 0, none⟩) 1 1) [b] :=
  ⟨rfl, .inr ⟨w.heap.size, 1, #[ptr b], rfl, hb, heap_new w _, Nat.le_refl _, by unfold maxLen; omega, rfl, rfl⟩⟩
theorem PRow.two (w : World) (base b c : Nat) (hb : base ≤ w.heap.size) : PRow (w.alloc (.cells #[ptr b, ptr c] 119)) base (.slice (some ⟨w.heap.size, 0, none⟩) 2 2) [b, c] :=
  ⟨rfl, .inr ⟨w.heap.size, 2, #[ptr b, ptr c], rfl, hb, heap_new w _, Nat.le_refl _, by unfold maxLen; omega, rfl, rfl⟩⟩
def Chs (w : World) (sz : Int) (L : List (Nat × List (Int × Int))) : Prop := ∀ x ∈ L, PCk w x.1 sz x.2
def bl (L : List (Nat × List (Int × Int))) : List Nat := L.map (·.1)
def zs (L : List (Nat × List (Int × Int))) : List (List (Int × Int)) := L.map (·.2)
theorem Chs.keep {w w' : World} {sz : Int} {L : List (Nat × List (Int × Int))} {r : Nat} (h : Chs w sz L) (g : w.grownBy w' (some r)) (hr : NoSamp w r) (hn : r ∉ bl L) : Chs w' sz L := fun x hx =>
  CAt.keep (h x hx) g (fun e => hn (by unfold bl; exact List.mem_map.2 ⟨x, hx, e⟩)) hr
theorem Chs.keepN {w w' : World} {sz : Int} {L : List (Nat × List (Int × Int))} (h : Chs w sz L) (g : w.grownBy w' none) : Chs w' sz L := fun x hx => CAt.keepN (h x hx) g
theorem Chs.keepB {w w' : World} {sz : Int} {L : List (Nat × List (Int × Int))} (h : Chs w sz L) (g : Below w.heap.size w w') : Chs w' sz L := h.keepN (gb_below g)
theorem Chs.keepP {w w' : World} {sz : Int} {L : List (Nat × List (Int × Int))} {row : Option Nat} (h : Chs w sz L) (g : w.grownBy w' row) (hr : ∀ r, row = some r → NoSamp w r ∧ ∃ cs f, w.heap[r]? = some (.cells cs 119 f)) : Chs w' sz L := by
  cases row with
  | none => exact h.keepN g
  | some r =>
    obtain ⟨h1, cs, f, h2⟩ := hr r rfl
    intro x hx
    obtain ⟨a, cap, hc, hl⟩ := h x hx
    refine CAt.keep ⟨a, cap, hc, hl⟩ g (fun e => ?_) h1
    subst e
    rw [h2] at hc
    simp at hc
theorem Chs.app {w : World} {sz : Int} {L M : List (Nat × List (Int × Int))} (h : Chs w sz L) (k : Chs w sz M) : Chs w sz (L ++ M) := fun x hx => by
  rcases List.mem_append.1 hx with e | e
  · exact h x e
  · exact k x e
theorem Chs.one {w : World} {sz : Int} {b : Nat} {z : List (Int × Int)} (h : PCk w b sz z) : Chs w sz [(b, z)] := fun x hx => by simp at hx; subst hx; exact h
theorem Chs.sub {w : World} {sz : Int} {L M : List (Nat × List (Int × Int))} (h : Chs w sz L) (hs : ∀ x ∈ M, x ∈ L) : Chs w sz M := fun x hx => h x (hs x hx)
theorem bl_app (L M : List (Nat × List (Int × Int))) : bl (L ++ M) = bl L ++ bl M := by simp [bl]
theorem zs_app (L M : List (Nat × List (Int × Int))) : zs (L ++ M) = zs L ++ zs M := by simp [zs]
theorem bl_len (L : List (Nat × List (Int × Int))) : (bl L).length = L.length := by simp [bl]
theorem zs_len (L : List (Nat × List (Int × Int))) : (zs L).length = L.length := by simp [zs]
theorem bl_mid (L : List (Nat × List (Int × Int))) (f e : Nat) : bl (midL L f e) = midL (bl L) f e := by simp [bl, midL, List.map_drop, List.map_take]
theorem zs_mid (L : List (Nat × List (Int × Int))) (f e : Nat) : zs (midL L f e) = midL (zs L) f e := by simp [zs, midL, List.map_drop, List.map_take]
theorem bl_get {L : List (Nat × List (Int × Int))} {i : Nat} (h : i < L.length) : (bl L).getD i 0 = L[i].1 := by simp [bl, List.getD_eq_getElem?_getD, h]
theorem zs_get {L : List (Nat × List (Int × Int))} {i : Nat} (h : i < L.length) : (zs L).getD i [] = L[i].2 := by simp [zs, List.getD_eq_getElem?_getD, h]
theorem Chs.get {w : World} {sz : Int} {L : List (Nat × List (Int × Int))} (h : Chs w sz L) {i : Nat} (hi : i < L.length) : PCk w ((bl L).getD i 0) sz ((zs L).getD i []) := by
  rw [bl_get hi, zs_get hi]; exact h _ (List.getElem_mem hi)
theorem Chs.all64 {w : World} {sz : Int} {L : List (Nat × List (Int × Int))} (h : Chs w sz L) : All64 (zs L).flatten := fun x hx => by
  obtain ⟨z, hz, hxz⟩ := List.mem_flatten.1 hx
  obtain ⟨y, hy, rfl⟩ := List.mem_map.1 hz
  exact CAt.all64 (h y hy) x hxz
theorem flat_len_get (Z : List (List (Int × Int))) (i : Nat) : (Z.getD i []).length ≤ Z.flatten.length := by
  by_cases h : i < Z.length
  · rw [chunk_get h]
    exact (List.sublist_flatten_of_mem (List.getElem_mem h)).length_le
  · rw [List.getD_eq_getElem?_getD, List.getElem?_eq_none (by omega)]; simp
theorem run_append_nothing {P : Program} {w : World} (base : Nat) (t ty e : TypeId) (i : TypeInfo) (size c : Nat) (ht : P.underlying t = some (.slice e)) (hi : P.info? e = some i)
    (v : Value) (n : Nat) (xs : List Value) (hown : w.ownsRow base e size v n xs) :
    (Builtin.append_ #[t, t] ty #[v, .slice none 0 c]).run P w = .ok v w := by
  rcases hown.2 with ⟨rfl, rfl⟩ | ⟨g, cap, cur, rfl, _, _, hnc, _⟩
  · simp [Builtin.append_, run_underlying ht, sizeOf, typeInfo, hi, Builtin.lenOf, Builtin.firstCells]
  · simp [Builtin.append_, run_underlying ht, sizeOf, typeInfo, hi, Builtin.lenOf, Builtin.firstCells, hnc, storeCells]
theorem owns_lst {W : World} {base : Nat} {v : Value} {z : List (Int × Int)} {n : Nat} (hn : z.length = n) (hz : All64 z) (hb : n ≤ 1048576) (hown : W.ownsRow base 27 2 v n (smpCells z)) :
    ∃ ad cp, v = .slice ad n cp ∧ Lst W ad n cp z := by
  subst hn
  obtain ⟨ad, cp, rfl, hs, _⟩ := owns_samps hz (by omega) hown
  refine ⟨ad, cp, rfl, hs, ?_⟩
  rcases hown.2 with ⟨h, h0⟩ | ⟨g, cp', cur, h, hgb, hgc, _⟩
  · exact .inl h0
  · cases h
    exact .inr ⟨⟨g, 0, none⟩, cur, _, rfl, hgc⟩
end Go.Proofs.YtmifpfojhlmbkaaGreat
