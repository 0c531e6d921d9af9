/-
  Contracts.
-/
import Derived.Test.YtmifpfojhlmbkaaGreatJ18
import Derived.Test.YtmifpfojhlmbkaaGreatJ21
namespace Go.Proofs.YtmifpfojhlmbkaaGreat
open Lib (hid)
set_option maxRecDepth 100000
set_option maxHeartbeats 16000000
open Go.RowKit Go.Shelf
set_option linter.unusedVariables false
set_option linter.unusedSimpArgs false
attribute [local go_sem] Oper.semAt_some
def Cap3 (w : World) (b0 b1 b2 : Nat) (v : Value) (x y : Int) : Prop := w.cell? ⟨b0, 0, none⟩ = some v ∧ w.cell? ⟨b1, 0, none⟩ = some (.int .i64 x) ∧ w.cell? ⟨b2, 0, none⟩ = some (.int .i64 y)
theorem Cap3.keep {w w' : World} {b0 b1 b2 : Nat} {v : Value} {x y : Int} (h : Cap3 w b0 b1 b2 v x y) (g : Below w.heap.size w w') : Cap3 w' b0 b1 b2 v x y :=
  ⟨(g.cell (p := ⟨b0, 0, none⟩) (World.block_lt_of_cell? w _ h.1)).trans h.1, (g.cell (p := ⟨b1, 0, none⟩) (World.block_lt_of_cell? w _ h.2.1)).trans h.2.1, (g.cell (p := ⟨b2, 0, none⟩) (World.block_lt_of_cell? w _ h.2.2)).trans h.2.2⟩
theorem Lst.same {w w' : World} {a : Option Addr} {len cap : Nat} {z : List (Int × Int)} (h : Lst w a len cap z) (hb : ∀ q, a = some q → w'.heap[q.block]? = w.heap[q.block]?) (hs : w.heap.size ≤ w'.heap.size) : Lst w' a len cap z := by
  obtain ⟨⟨h1, h2, h3, h4, h5⟩, h6⟩ := h
  refine ⟨⟨h1, h2, h3, h4, ?_⟩, ?_⟩
  · rcases h5 with h0 | ⟨b, off, rfl, hlt, hc⟩
    · exact .inl h0
    · refine .inr ⟨b, off, rfl, Nat.lt_of_lt_of_le hlt hs, fun i hi => ?_⟩
      have hbb := hb ⟨b, off, none⟩ rfl
      have hcell : ∀ o, w'.cell? ⟨b, o, none⟩ = w.cell? ⟨b, o, none⟩ := fun o => by unfold World.cell?; rw [hbb]
      rw [hcell, hcell]; exact hc i hi
  · rcases h6 with h0 | ⟨q, cs, f, rfl, hc⟩
    · exact .inl h0
    · exact .inr ⟨q, cs, f, rfl, (hb q rfl).trans hc⟩
theorem at_pos (Z : List (List (Int × Int))) (p : Int × Int → Bool) (j i : Nat) (hj : j < Z.length) (hi : i < (Z.getD j []).length) (hp : p ((Z.getD j [])[i]) = true) :
    ∃ rest, Z.flatten.filter p = ((Z.take j).flatten ++ (Z.getD j []).take i).filter p ++ (Z.getD j [])[i] :: rest := by
  have e0 : Z.flatten = (Z.take j).flatten ++ Z.getD j [] ++ (Z.drop (j + 1)).flatten := by
    conv => lhs; rw [← List.take_append_drop (j + 1) Z, List.flatten_append, take_flat Z j hj]
  generalize Z.getD j [] = z at *
  refine ⟨(z.drop (i + 1) ++ (Z.drop (j + 1)).flatten).filter p, ?_⟩
  have e1 : z = z.take i ++ z[i] :: z.drop (i + 1) := by
    conv => lhs; rw [← List.take_append_drop i z, List.drop_eq_getElem_cons hi]
  have e : Z.flatten = (Z.take j).flatten ++ z.take i ++ z[i] :: (z.drop (i + 1) ++ (Z.drop (j + 1)).flatten) := by
    rw [e0, List.append_assoc, List.append_assoc]
    congr 1
    conv => lhs; rw [e1]
    rw [List.append_assoc]; rfl
  rw [e, List.filter_append, List.filter_cons_of_pos hp]
theorem step_pos (Z : List (List (Int × Int))) (p : Int × Int → Bool) (j i : Nat) (hi : i < (Z.getD j []).length) :
    ((Z.take j).flatten ++ (Z.getD j []).take (i + 1)).filter p = ((Z.take j).flatten ++ (Z.getD j []).take i).filter p ++ (if p ((Z.getD j [])[i]) = true then [(Z.getD j [])[i]] else []) := by
  rw [List.take_succ_eq_append_getElem hi, ← List.append_assoc, List.filter_append]
  congr 1
  by_cases h : p ((Z.getD j [])[i]) = true
  · rw [if_pos h, List.filter_cons_of_pos h]; rfl
  · rw [if_neg h, List.filter_cons_of_neg h]; rfl
def LK (M : World → Nat → Prop) (W : World) (a : Option Addr) (cap : Nat) (z : List (Int × Int)) : Prop := Lst W a z.length cap z ∧ ∀ u, a = some u → 0 < z.length → u.block < W.heap.size ∧ ¬ M W u.block
theorem LK.keep {M : World → Nat → Prop} {W W' : World} {a : Option Addr} {cap : Nat} {z : List (Int × Int)} (h : LK M W a cap z) (k : KeepM M W W') : LK M W' a cap z := by
  by_cases hz : 0 < z.length
  · refine ⟨h.1.same (fun q hq => ?_) k.size, fun u hu _ => ?_⟩
    · obtain ⟨h1, h2⟩ := h.2 q hq hz
      exact (k.block _ h1 h2).1
    · obtain ⟨h1, h2⟩ := h.2 u hu hz
      exact ⟨Nat.lt_of_lt_of_le h1 k.size, (k.block _ h1 h2).2⟩
  · obtain ⟨⟨⟨h1, h2, h3, h4, _⟩, _⟩, _⟩ := h
    exact ⟨⟨⟨h1, h2, h3, h4, .inl (by omega)⟩, .inl (by omega)⟩, fun u hu h0 => absurd h0 hz⟩
def RI {α : Type} (J : List α → World → Prop) (M : World → Nat → Prop) (w : World) (n j : Nat) (i : Value) (xs : List α) (wr : World) : Prop := j ≤ n ∧ i = .int .i64 (j : Int) ∧ J xs wr ∧ Below w.heap.size w wr ∧ ∀ k, k < w.heap.size → ¬ M wr k
theorem rising_walk (b b0 b1 b2 : Nat) (sz : Int) (s : Ser) (x y : Int) (w : World) (h : SerAt w b sz s) (hs : 128 ≤ sz) (hr : Rising s.z) (hn : s.z.length ≤ 100000) (hc : Cap3 w b0 b1 b2 (.pointer (some ⟨b, 0, none⟩)) x y) :
    SeqAll 133 #[.pointer (some ⟨b0, 0, none⟩), .pointer (some ⟨b1, 0, none⟩), .pointer (some ⟨b2, 0, none⟩)] encS (s.z.filter (inB x y)) (fun k => k < w.heap.size) w := by
  intro l J M W hW hJ hM hR hY hJ0
  obtain ⟨L, ⟨a, cap, hc5, hpt, hk⟩, hg, hf⟩ := h
  have hne := good_ne hg
  have hrz : Rising (zs L).flatten := by rw [hf]; exact hr
  have hLn : L.length ≤ 100000 := by have := flat_ge hne; rw [hf, zs_len] at this; omega
  have hlz : (zs L).flatten.length ≤ 100000 := by rw [hf]; exact hn
  have hw := win_le hrz hne x y
  rw [zs_len] at hw
  have HXS := hid (win_in hrz hne x y)
  rw [hf] at HXS
  have HC := hid hc5
  have HPT := hid hpt
  have HK := hid hk
  have HRZ := hid hrz
  have HNE := hid hne
  have HCP := hid hc
  have HY := hid hY
  have HJ := hid hJ
  have HM := hid hM
  have HJ0 := hid hJ0
  have HNR := hid hR
  obtain ⟨f, hff⟩ : ∃ f, winA (zs L) x y = f := ⟨_, rfl⟩
  obtain ⟨e, hee⟩ : ∃ e, winB (zs L) x y = e := ⟨_, rfl⟩
  rw [hff, hee] at hw HXS
  have HWF := hid hff
  have HWE := hid hee
  obtain ⟨a1, S1, P1⟩ := ptrs_lh hpt f e hw.1 hw.2
  rw [← bl_mid] at P1
  rw [← zs_mid] at HXS
  have HYM : Hid (∀ u ∈ midL L f e, u ∈ L) := hid (fun u hu => List.mem_of_mem_take (List.mem_of_mem_drop hu))
  have HYL := hid (show (midL L f e).length = e - f from by unfold midL; simp; omega)
  have HKY := hid (hk.sub HYM.out)
  have HYS := hid (show (zs (midL L f e)).flatten.length ≤ 100000 from by
    rw [zs_mid]
    have := congrArg (fun l => (List.flatten l).length) (three (zs L) f e hw.1)
    simp only [List.flatten_append, List.length_append] at this
    omega)
  obtain ⟨NL, hNL⟩ : ∃ NL, L.length = NL := ⟨_, rfl⟩
  rw [hNL] at HC HPT hw hLn S1
  have HNL := hid hNL
  have HP1 := hid P1
  clear hc5 hpt hk hg hf hrz hne hr hc hff hee hNL hY P1 hJ hM hJ0 hR
  generalize midL L f e = Y at *
  obtain ⟨n, hnn⟩ : ∃ n, e - f = n := ⟨_, rfl⟩
  rw [hnn] at HYL HP1 S1
  have hnb : n ≤ 100000 := by omega
  clear hnn
  obtain ⟨cp1, hcp⟩ : ∃ cp1, cap - f = cp1 := ⟨_, rfl⟩
  rw [hcp] at HP1 S1
  clear hcp
  have CW := HCP.out.keep hW
  have c0 := CW.1
  have c1 := CW.2.1
  have c2 := CW.2.2
  clear CW
  have HBW := hid hW
  have sW := hW.size
  clear hW
  go_enter Tryz.func133, Tryz.ntmps133
  go_wp2_with fail
  go_cut [5, 6] (fun s5 s6 wx => s5 = .int .i64 (f : Int) ∧ s6 = .int .i64 (e : Int) ∧ Below W.heap.size W wx)
  case first =>
    have BD : Below w.heap.size w W.drew := HBW.out.drew
    have HCD : Hid (SCell W.drew b sz s.ret s.pol s.mx s.line (.slice a NL cap)) := hid (HC.out.keep (gb_below (row := none) BD) (by simp))
    have HPD : Hid (Ptrs W.drew a NL cap (bl L)) := hid (HPT.out.keepB BD)
    have HKD : Hid (Chs W.drew sz L) := hid (HK.out.keepB BD)
    go_region_held3 (fun w' => w'.cell? ⟨b0, 0, none⟩ = some (.pointer (some ⟨b, 0, none⟩)) ∧ w'.cell? ⟨b1, 0, none⟩ = some (.int .i64 x) ∧ w'.cell? ⟨b2, 0, none⟩ = some (.int .i64 y))
      (first
        | (exact ⟨c0, c1, c2⟩)
        | (exact HCP.out.keep (HBW.out.trans (B6.out.mono sW)))
        | go_keep)
      (first
        | (go_at_call 112
           (with_reducible refine (slist_cell b sz _ _ _ _ a NL cap _ HCD.out (by omega)).mono ?_)
           rintro e w' ⟨rfl, rfl⟩)
        | (go_at_call 69
           (with_reducible refine (window_any a NL cap L sz x y _ HPD.out HKD.out (by omega) (by omega) HRZ.out HNE.out (by omega)).mono ?_)
           rintro e W6 ⟨rfl, b6⟩
           rw [HWF.out, HWE.out]
           have B6 : Hid (Below W.heap.size W W6) := hid ((drew_below (w := W) (w' := W.drew) ⟨1, rfl⟩).trans b6)
           clear b6))
    go_wp2_with fail
    go_meet
    exact ⟨rfl, rfl, B6.out⟩
  case rest =>
    obtain ⟨rfl, rfl, B1⟩ := hcut
    generalize wc = W1 at *
    have BW1 := HBW.out.trans (B1.mono sW)
    have HJ1 := hid (HJ.out [] W W1 none HJ0.out (gb_below B1) (fun r e => by cases e))
    have HN1 := hid (show ∀ k, k < w.heap.size → ¬ M W1 k from fun k hk e => HNR.out k hk (HM.out.new [] W W1 none k HJ0.out (gb_below B1) (fun r e => by cases e) e))
    have HC1 := hid (HC.out.keep (gb_below (row := none) BW1) (by simp))
    have d0 := (HCP.out.keep BW1).1
    clear c0 c1 c2 B1
    have HBW1 := hid BW1
    clear BW1
    go_wp2_with fail
    refine (slist_cell b sz _ _ _ _ a NL cap _ HC1.out (by omega)).mono ?_
    rintro e' w' ⟨rfl, rfl⟩
    go_wp2_with fail
    clear d0
    refine (wpIn_wide (n := 0)).1 ?_
    gi_loopw [25] (fun i wr => ∃ j : Nat, RI J M w n j i ((((zs Y).take j).flatten).filter (inB x y)) wr) (fun i _ => n - (intOf i).toNat)
    case atStart => exact ⟨0, Nat.zero_le _, rfl, by simpa using HJ1.out, HBW1.out, HN1.out⟩
    case round =>
      obtain ⟨j, hj, rfl, hJj, B2, hNj⟩ := hrel
      by_cases hjn : j < n
      · have hjY : j < Y.length := by rw [HYL.out]; exact hjn
        have hjZ : j < (zs Y).length := by rw [zs_len]; exact hjY
        obtain ⟨pb, po, hpe, hpb, x0⟩ := HP1.out.at_ j hjn
        subst hpe
        unfold ptr at x0
        have x1 := (B2.cell (p := ⟨pb, po + j, none⟩) hpb).trans x0
        have HQ : Hid (PCk wr ((bl Y).getD j 0) sz ((zs Y).getD j [])) := hid ((HKY.out.keepB B2).get (i := j) hjY)
        have hzl : ((zs Y).getD j []).length ≤ 100000 := Nat.le_trans (flat_len_get _ _) HYS.out
        have hj0 : (0 : Int) ≤ (j : Int) := by omega
        have hj1 : (j : Int) < (n : Int) := by omega
        generalize (bl Y).getD j 0 = q at *
        clear x0
        gi_wp2_with fail
        refine ⟨trivial, rfl, (callsIn_wide.2 (all_new q sz ((zs Y).getD j []) wr HQ.out (by omega) (by omega))).mono ?_⟩
        rintro e2 W3 ⟨a3, cap3, rfl, l3, b3, f3⟩
        have HL3 := hid (show LK M W3 a3 cap3 ((zs Y).getD j []) from ⟨l3, fun u hu hz => by
          have hlt : u.block < W3.heap.size := by
            rcases l3.2 with h0 | ⟨u', cs, ff, e', hcl⟩
            · omega
            · rw [hu] at e'; cases e'; exact heap_lt hcl
          refine ⟨hlt, fun hm => ?_⟩
          have h1 := HM.out.new _ wr W3 none u.block hJj (gb_below b3) (fun r e => by cases e) hm
          obtain ⟨o, ho, _⟩ := HM.out.own _ wr u.block hJj h1
          have := heap_lt ho
          have := f3 u hu
          omega⟩)
        have HJ3 := hid (HJ.out _ wr W3 none hJj (gb_below b3) (fun r e => by cases e))
        have HB3 := hid (B2.trans (b3.mono B2.size))
        have HN3 := hid (show ∀ k, k < w.heap.size → ¬ M W3 k from fun k hk e => hNj k hk (HM.out.new _ wr W3 none k hJj (gb_below b3) (fun r e => by cases e) e))
        have HAT := hid (fun i hi hp => at_pos (zs Y) (inB x y) j i hjZ hi hp)
        have HST := hid (fun i hi => step_pos (zs Y) (inB x y) j i hi)
        have HTK := hid (take_flat (zs Y) j hjZ)
        have HAL := hid (show All64 ((zs Y).getD j []) from l3.all64)
        clear l3 b3 f3 x1 HQ hJj B2 hNj
        generalize (zs Y).getD j [] = z at *
        gi_wp2_with fail
        gi_loopw [32] (fun iv wr => ∃ i : Nat, RI J M w z.length i iv ((((zs Y).take j).flatten ++ z.take i).filter (inB x y)) wr ∧ LK M wr a3 cap3 z) (fun iv _ => z.length - (intOf iv).toNat)
        case atStart => exact ⟨0, ⟨Nat.zero_le _, rfl, by simpa using HJ3.out, HB3.out, HN3.out⟩, HL3.out⟩
        case round =>
          obtain ⟨i, ⟨hi, rfl, hJi, B4, hN4⟩, hLK⟩ := hrel
          by_cases hil : i < z.length
          · have hJa := hid hJi
            obtain ⟨pb3, po3, hpe3, hpb3, y0, y1⟩ := hLK.1.1.at_ i hil
            have HLK := hid hLK
            have hi0 : (0 : Int) ≤ (i : Int) := by omega
            have hi1 : (i : Int) < (z.length : Int) := by omega
            have CR := HCP.out.keep B4
            have c1 := CR.2.1
            have c2 := CR.2.2
            have hb1 := World.block_lt_of_cell? w _ HCP.out.2.1
            have hb2 := World.block_lt_of_cell? w _ HCP.out.2.2
            have s4 := B4.size
            have hb1' : b1 < wr.heap.size := Nat.lt_of_lt_of_le hb1 s4
            have hb2' : b2 < wr.heap.size := Nat.lt_of_lt_of_le hb2 s4
            have HU := hid (show z[i] = (tOf z i, vOf z i) from by rw [tOf_get hil]; unfold vOf; rw [List.getD_eq_getElem?_getD, List.getElem?_eq_getElem hil]; rfl)
            have HSTi := hid (HST.out i hil)
            rw [HU.out] at HSTi
            have HATi := hid (HAT.out i hil)
            rw [HU.out] at HATi
            subst hpe3
            generalize tOf z i = T at *
            generalize vOf z i = V at *
            have HJ5 := hid (HJ.out _ wr (wr.alloc (.cells #[.int .i64 T, .int .i64 V] 27)) none hJa.out (World.grownBy_alloc wr _ none) (fun r e => by cases e))
            have HN5 := hid (show ∀ k, k < w.heap.size → ¬ M (wr.alloc (.cells #[.int .i64 T, .int .i64 V] 27)) k from fun k hk e => hN4 k hk (HM.out.new _ wr _ none k hJa.out (World.grownBy_alloc wr _ none) (fun r e => by cases e) e))
            have HB5 := hid (B4.alloc s4 (.cells #[.int .i64 T, .int .i64 V] 27))
            have HL5 := hid (show LK M (wr.alloc (.cells #[.int .i64 T, .int .i64 V] 27)) (some ⟨pb3, po3, none⟩) cap3 z from ⟨HLK.out.1.keepN (World.grownBy_alloc wr _ none), fun u hu hz => by
              obtain ⟨h1, h2⟩ := HLK.out.2 u hu hz
              exact ⟨by simp; omega, fun hm => h2 (HM.out.new _ wr _ none u.block hJa.out (World.grownBy_alloc wr _ none) (fun r e => by cases e) hm)⟩⟩)
            clear hJi hLK hN4
            by_cases hin : inB x y (T, V) = true
            · have hx1 : x ≤ T := by unfold inB at hin; simp at hin; exact hin.1
              have hy1 : T ≤ y := by unfold inB at hin; simp at hin; exact hin.2
              obtain ⟨rest, hrest⟩ := HATi.out hin
              rw [← HXS.out] at hrest
              obtain ⟨fn, tmps, assign, body, hy, hR⟩ := HY.out 0 _ (T, V) rest _ hrest HJ5.out
              rw [if_pos hin] at HSTi
              have HR := hid hR
              dsimp only [encS] at hy
              clear hR hrest
              gi_wp2_with fail
              refine ⟨rfl, HR.out.mono ?_⟩
              rintro e6 W6 ⟨rfl, J6, K6⟩
              have KB6 := K6.below HB5.out.size HN5.out
              have HB6 := hid (HB5.out.trans KB6.1)
              have HN6 := hid KB6.2
              clear KB6
              have HL6 := hid (HL5.out.keep K6)
              have HJ6 := hid J6
              clear J6 K6 hy HR y0 y1 c1 c2
              gi_wp2
              go_roundw
              case rel => exact ⟨i + 1, ⟨by omega, by go_num, by rw [HSTi.out]; exact HJ6.out, HB6.out, HN6.out⟩, HL6.out⟩
              case measure => simp [intOf]; omega
            · rw [if_neg hin, List.append_nil] at HSTi
              have hxy : ¬ x ≤ T ∨ (x ≤ T ∧ ¬ T ≤ y) := by
                by_cases h1 : x ≤ T
                · exact .inr ⟨h1, fun h2 => hin (by unfold inB; simp; exact ⟨h1, h2⟩)⟩
                · exact .inl h1
              clear hin
              rcases hxy with hx1 | ⟨hx1, hy1⟩
              · gi_wp2
                refine ⟨fun _ h => (by cases h), ?_⟩
                gi_wp2
                go_roundw
                case rel => exact ⟨i + 1, ⟨by omega, by go_num, by rw [HSTi.out]; exact HJ5.out, HB5.out, HN5.out⟩, HL5.out⟩
                case measure => simp [intOf]; omega
              · gi_wp2
                refine ⟨fun _ h => (by cases h), ?_⟩
                gi_wp2
                go_roundw
                case rel => exact ⟨i + 1, ⟨by omega, by go_num, by rw [HSTi.out]; exact HJ5.out, HB5.out, HN5.out⟩, HL5.out⟩
                case measure => simp [intOf]; omega
          · obtain rfl : z.length = i := by omega
            rw [List.take_length, ← HTK.out] at hJi
            have hJa := hid hJi
            have HB4 := hid B4
            have HN4 := hid hN4
            clear hJi hLK B4 hN4
            gi_wp2
            go_roundw
            case rel => exact ⟨j + 1, by omega, by go_num, hJa.out, HB4.out, HN4.out⟩
            case measure => simp [intOf]; omega
      · obtain rfl : n = j := by omega
        have HT := hid (show (zs Y).take n = zs Y from by rw [← HYL.out, ← zs_len, List.take_length])
        rw [HT.out, ← HXS.out] at hJj
        gi_wp2
        go_end0
        exact ⟨⟨_, rfl⟩, hJj⟩
def IterP (f : Nat) (p : Option Addr) (x y : Int) (w : World) (e : Ending) (w' : World) : Prop :=
  e = .returned (.func (.func f) #[] #[.pointer (some ⟨w.heap.size, 0, none⟩), .pointer (some ⟨w.heap.size + 1, 0, none⟩), .pointer (some ⟨w.heap.size + 2, 0, none⟩)]) ∧ Cap3 w' w.heap.size (w.heap.size + 1) (w.heap.size + 2) (.pointer p) x y ∧ Below w.heap.size w w'
theorem cap3_new (w : World) (p : Option Addr) (x y : Int) (t : TypeId) : Cap3 (((w.alloc (.cells #[.pointer p] t)).alloc (.cells #[.int .i64 x] 3)).alloc (.cells #[.int .i64 y] 3)) w.heap.size (w.heap.size + 1) (w.heap.size + 2) (.pointer p) x y := by
  have h1 := heap_new (w.alloc (.cells #[.pointer p] t)) (.cells #[.int .i64 x] 3)
  have h2 := heap_new ((w.alloc (.cells #[.pointer p] t)).alloc (.cells #[.int .i64 x] 3)) (.cells #[.int .i64 y] 3)
  rw [World.size_alloc] at h1
  rw [World.size_alloc, World.size_alloc] at h2
  exact ⟨by rw [cell_of (heap_old (heap_old (heap_new w _)))]; rfl, by rw [cell_of (heap_old h1)]; rfl, by rw [cell_of h2]; rfl⟩
theorem rising_ok (p : Option Addr) (x y : Int) (w : World) : Calls Tryz.prog 67 #[.pointer p, .int .i64 x, .int .i64 y] w (IterP 133 p x y w) := by
  have HC := hid (cap3_new w p x y 47)
  have HB := hid ((((Below.refl w.heap.size w).alloc (Nat.le_refl _) (.cells #[.pointer p] 47)).alloc (by simp) (.cells #[.int .i64 x] 3)).alloc (by simp; omega) (.cells #[.int .i64 y] 3))
  go_enter Tryz.func67, Tryz.ntmps67
  go_wp2
  go_ret
  exact ⟨by simp, HC.out, HB.out⟩
theorem range_ser (b : Nat) (sz : Int) (s : Ser) (x y : Int) (w : World) (h : SerAt w b sz s) (hs : 128 ≤ sz) (hr : Rising s.z) (hn : s.z.length ≤ 100000) :
    Calls Tryz.prog 22 #[.pointer (some ⟨b, 0, none⟩), .int .i64 x, .int .i64 y] w (LaidP (s.z.filter (inB x y)) w) := by
  have HS := hid h
  have HR := hid hr
  have HA := hid (show All64 (s.z.filter (inB x y)) from fun u hu => h.all64 u (List.mem_filter.1 hu).1)
  have hl : (s.z.filter (inB x y)).length ≤ 100000 := Nat.le_trans (List.length_filter_le _ _) hn
  clear h hr
  go_enter Tryz.func22, Tryz.ntmps22
  go_wp2_with fail
  refine (rising_ok (some ⟨b, 0, none⟩) x y w).mono ?_
  rintro e W1 ⟨rfl, c1, b1⟩
  have HC1 := hid c1
  have HS1 := hid (HS.out.keepB b1)
  clear c1
  go_wp2_with fail
  refine (gathered_any _ _ _ W1 (enters_of Tryz.func133 (by kernel_rfl) rfl) (fun k => k < W1.heap.size) (fun _ h => h) (rising_walk b _ _ _ sz s x y W1 HS1.out hs HR.out hn HC1.out) hl HA.out).mono ?_
  rintro e W2 ⟨a2, cap2, rfl, l2, b2⟩
  have B2 := b1.trans (b2.mono b1.size)
  have HL2 := hid l2
  clear l2 b1 b2
  generalize hm : (s.z.filter (inB x y)).length = m at *
  have HM := hid hm
  clear hm
  go_wp2
  go_ret
  exact ⟨a2, cap2, by rw [HM.out]; rfl, by rw [HM.out]; exact HL2.out, B2⟩
open Go.RowKit
def IRow (w : World) (base : Nat) (v : Value) (ns : List Int) : Prop := w.ownsRow base 3 1 v ns.length (ns.map fun n => .int .i64 n)
theorem IRow.nil (w : World) (base : Nat) : IRow w base (.slice none 0 0) [] := World.ownsRow_nil w base _ _
theorem info_int : (Tryz.prog.info? 3).map (fun i => (i.zero, i.size, i.bytes)) = some (some (.int .i64 0), 1, 8) := by kernel_rfl
theorem IRow.own {w : World} {base : Nat} {v : Value} {ns : List Int} (h : IRow w base v ns) : ∀ r, v.ownBlock = some r → base ≤ r ∧ ∃ cs f, w.heap[r]? = some (.cells cs 3 f) := by
  intro r hr
  rcases h.2 with ⟨rfl, e⟩ | ⟨g, cap, cur, rfl, hb, hg, _⟩
  · simp [Value.ownBlock] at hr
  · simp [Value.ownBlock] at hr
    subst hr
    exact ⟨hb, _, _, hg⟩
theorem IRow.keepN {w w' : World} {base : Nat} {v : Value} {ns : List Int} (h : IRow w base v ns) (g : w.grownBy w' none) : IRow w' base v ns := by
  refine World.ownsRow.kept h g ?_
  rcases h.2 with ⟨rfl, e⟩ | ⟨g', cap, cur, rfl, hb, hg, _⟩
  · exact .inl rfl
  · exact .inr (by simp [Value.ownBlock])
theorem wpList_append_int {w : World} {ops : Array Oper} {rest : List Oper} {o : Oper} {a : Act} {Q : Exit → Act → World → Prop} (hw : Region.wanted o (yielded ops a.tmps) = true) (s x : Operand)
    (ho : o.op = .call { callee := .builtin .append, args := #[s, x], argTypes := #[65, 65] })
    (base : Nat) (v : Value) (ns : List Int) (hs : a.eval s = v) (hown : IRow w base v ns) (b c : Nat) (n : Int) (hx : a.eval x = .slice (some ⟨b, 0, none⟩) 1 c) (hl : w.cell? ⟨b, 0, none⟩ = some (.int .i64 n)) (hb : ns.length ≤ 1048576) (hbase : base ≤ w.heap.size)
    (h : ∀ v' w', IRow w' base v' (ns ++ [n]) → w.grownBy w' v.ownBlock → wpList Tryz.prog ops Q rest (a.put o.dst v') w') : wpList Tryz.prog ops Q (o :: rest) a w := by
  obtain ⟨i0, hi, hz0, hz1, hz2⟩ := info_parts info_int
  refine wpList_step fun K hK => ?_
  rw [if_pos hw]
  refine wp_append_own w s x 65 ho base 3 i0 _ 1 8 Tryz.underlying65 hi hz0 hz1 hz2 rfl (by omega) v ns.length _ hs hown ⟨b, 0, none⟩ 1 c [.int .i64 n] hx rfl ?_ (by intro u hu; simp at hu; subst hu; rfl) (by unfold maxLen; omega) (by omega) hbase ?_
  · intro j u hj
    cases j with
    | zero => simp at hj; subst hj; simpa [Addr.add] using hl
    | succ j => simp at hj
  · intro v' w' h2 h3 _
    refine hK _ _ (h v' w' ?_ h3)
    unfold IRow
    rw [List.length_append, List.map_append]; exact h2
theorem IRow.bel {w w' w0 : World} {B base : Nat} {v : Value} {ns : List Int} (hb : Below B w0 w) (hs : B ≤ w.heap.size) (hown : IRow w base v ns) (hB : B ≤ base) (g : w.grownBy w' v.ownBlock) : Below B w0 w' :=
  hb.grown g hs (fun k hk => Nat.le_trans hB (hown.own k hk).1)
def CopyP (sz : Int) (s : Ser) (w : World) (e : Ending) (w' : World) : Prop := ∃ o, e = .returned (.pointer (some ⟨o, 0, none⟩)) ∧ w.heap.size ≤ o ∧ SerAt w' o sz s ∧ Below w.heap.size w w'
def CopyI (sz : Int) (s : Ser) (Z : List (List (Int × Int))) (n j : Nat) (o : Nat) (i : Value) (M : List (Nat × List (Int × Int))) (cu : List Value) (w wr : World) : Prop :=
  j ≤ n ∧ i = .int .i64 (j : Int) ∧ SCell wr o sz s.ret s.pol s.mx s.line (.slice (some ⟨o + 1, 0, none⟩) n n) ∧ wr.heap[o + 1]? = some (.cells cu.toArray 119 (0, 0)) ∧ cu.length = n ∧ cu.take j = (bl M).map ptr ∧ Chs wr sz M ∧ zs M = Z.take j ∧ Below w.heap.size w wr
theorem set_take (cu : List Value) (j : Nat) (v : Value) (xs : List Value) (hj : j < cu.length) (h : cu.take j = xs) : (cu.set j v).take (j + 1) = xs ++ [v] := by
  rw [List.take_succ_eq_append_getElem (by simpa using hj), List.take_set_of_le (by omega), h]
  simp
theorem copy_ser (b : Nat) (sz : Int) (s : Ser) (w : World) (h : SerAt w b sz s) (hs : 128 ≤ sz) (hn : s.z.length ≤ 100000) :
    Calls Tryz.prog 61 #[.pointer (some ⟨b, 0, none⟩)] w (CopyP sz s w) := by
  obtain ⟨L, ⟨a, cap, hc, hpt, hk⟩, hg, hf⟩ := h
  have hne := good_ne hg
  have hLn : L.length ≤ 100000 := by have := flat_ge hne; rw [hf, zs_len] at this; omega
  have hlz : (zs L).flatten.length ≤ 100000 := by rw [hf]; omega
  have hblt := hc.lt
  have HC := hid hc
  have HPT := hid hpt
  have HK := hid hk
  have HG := hid hg
  have HF := hid hf
  obtain ⟨NL, hNL⟩ : ∃ NL, L.length = NL := ⟨_, rfl⟩
  rw [hNL] at HC HPT hLn
  have HNL := hid hNL
  clear hNL hc hpt hk hg hf hne
  have c0 : w.cell? ⟨b, 0, none⟩ = some (.int .i64 sz) := by rw [cell_of HC.out]; rfl
  have c1 : w.cell? ⟨b, 1, none⟩ = some (.int .i64 s.ret) := by rw [cell_of HC.out]; rfl
  have c2 : w.cell? ⟨b, 2, none⟩ = some (.int .i64 s.pol) := by rw [cell_of HC.out]; rfl
  have c3 : w.cell? ⟨b, 3, none⟩ = some (.int .i64 s.mx) := by rw [cell_of HC.out]; rfl
  have c4 : w.cell? ⟨b, 4, none⟩ = some (.int .i64 s.line) := by rw [cell_of HC.out]; rfl
  have c5 : w.cell? ⟨b, 5, none⟩ = some (.slice a NL cap) := by rw [cell_of HC.out]; rfl
  obtain ⟨i0, hi, hz0, hz1, hz2⟩ := info_parts info_ptr
  go_enter Tryz.func61, Tryz.ntmps61
  go_wp2_with fail
  refine (sNone_no b sz _ _ _ _ _ w HC.out (by omega)).mono ?_
  rintro e w' ⟨rfl, rfl⟩
  have hsz0 : (w.alloc (.cells #[.int .i64 sz, .int .i64 s.ret, .int .i64 s.pol, .int .i64 s.mx, .int .i64 s.line, .slice a NL cap] 118)).heap.size = w.heap.size + 1 := by simp
  have HB0 := hid ((Below.refl w.heap.size w).alloc (Nat.le_refl _) (.cells #[.int .i64 sz, .int .i64 s.ret, .int .i64 s.pol, .int .i64 s.mx, .int .i64 s.line, .slice a NL cap] 118))
  have HN0 := hid (heap_new w (.cells #[.int .i64 sz, .int .i64 s.ret, .int .i64 s.pol, .int .i64 s.mx, .int .i64 s.line, .slice a NL cap] 118))
  go_wp2_with (at_make; refine wpList_make_full _ rfl _ _ _ rfl w.heap.size 119 i0 _ 1 Tryz.underlying116 hi hz0 hz1 .i64 .i64 (NL : Int) (NL : Int) NL rfl rfl rfl rfl (by rw [hz2]; omega) (by unfold maxLen; omega) (by simp) ?_; intro W1 o1 g1; have HW1 := hid (HB0.out.trans ((gb_below_none g1).mono HB0.out.size)); have HN1 : Hid (W1.heap[w.heap.size]? = _) := hid ((g1.block w.heap.size (heap_lt HN0.out) (by simp)).trans HN0.out); have n5 : W1.cell? ⟨w.heap.size, 5, none⟩ = some (.slice a NL cap) := (by rw [cell_of HN1.out]; rfl); have f5 := frozen_of (o := 5) HN1.out; have b5 : W1.cell? ⟨b, 5, none⟩ = some (.slice a NL cap) := (by rw [HW1.out.cell hblt]; exact c5); have hne5 : b ≠ w.heap.size := (by omega))
  have HS2 := hid (show SCell (W1.setCell ⟨w.heap.size, 5, none⟩ (.slice (some ⟨w.heap.size + 1, 0, none⟩) NL NL)) w.heap.size sz s.ret s.pol s.mx s.line (.slice (some ⟨w.heap.size + 1, 0, none⟩) NL NL) from heap_set (o := 5) (v := .slice (some ⟨w.heap.size + 1, 0, none⟩) NL NL) HN1.out)
  obtain ⟨cu, hcu, hlc⟩ : ∃ cu : List Value, Hid (W1.heap[w.heap.size + 1]? = some (.cells cu.toArray 119 (0, 0))) ∧ cu.length = NL := by
    rcases o1.2 with ⟨h, _⟩ | ⟨g, cp, cu, h, _, hg, _, _, hsz, _⟩
    · cases h
    · rw [hsz0] at h
      simp only [Value.slice.injEq, Option.some.injEq, Addr.mk.injEq] at h
      obtain ⟨⟨rfl, _⟩, _, rfl⟩ := h
      exact ⟨cu.toList, hid (by simpa using hg), by simpa using hsz⟩
  have HR2 := hid (show (W1.setCell ⟨w.heap.size, 5, none⟩ (.slice (some ⟨w.heap.size + 1, 0, none⟩) NL NL)).heap[w.heap.size + 1]? = some (.cells cu.toArray 119 (0, 0)) from by rw [heap_set_ne (by omega)]; exact hcu.out)
  have HW2 := hid (bel_gb HW1.out HW1.out.size (Nat.le_refl _) (gb_set (gb_refl W1 (some w.heap.size)) 5 (.slice (some ⟨w.heap.size + 1, 0, none⟩) NL NL)))
  have HLC := hid hlc
  clear o1 g1 n5 f5 b5 hcu hlc hi hz0 hz1 hz2 hsz0 HB0 HN0 HN1 HW1 c0 c1 c2 c3 c4
  generalize W1.setCell ⟨w.heap.size, 5, none⟩ (.slice (some ⟨w.heap.size + 1, 0, none⟩) NL NL) = W2 at *
  go_loopw [23] (fun i wr => ∃ (j : Nat) (M : List (Nat × List (Int × Int))) (cu : List Value), CopyI sz s (zs L) NL j w.heap.size i M cu w wr) (fun i _ => NL - (intOf i).toNat)
  case atStart => exact ⟨0, [], cu, Nat.zero_le _, rfl, HS2.out, HR2.out, HLC.out, rfl, (fun x hx => by cases hx), rfl, HW2.out⟩
  case round =>
    obtain ⟨j, M, cu, hj, rfl, hsc, hrow, hcl, htk, hch, hzm, B2⟩ := hrel
    have s2 := B2.size
    by_cases hjn : j < NL
    · obtain ⟨pb, po, hpe, hpb, x0⟩ := HPT.out.at_ j hjn
      subst hpe
      unfold ptr at x0
      have x1 := (B2.cell (p := ⟨pb, po + j, none⟩) hpb).trans x0
      have hjL : j < L.length := by rw [HNL.out]; exact hjn
      have HQ : Hid (PCk wr.drew ((bl L).getD j 0) sz ((zs L).getD j [])) := hid ((HK.out.keepB B2.drew).get (i := j) hjL)
      have hzl : ((zs L).getD j []).length ≤ 100000 := Nat.le_trans (flat_len_get _ _) hlz
      have HZN := hid (show (zs L).take (j + 1) = (zs L).take j ++ [(zs L).getD j []] from by
        rw [List.take_succ_eq_append_getElem (by rw [zs_len]; exact hjL), chunk_get (by rw [zs_len]; exact hjL)])
      have hj0 : (0 : Int) ≤ (j : Int) := by omega
      have hj1 : (j : Int) < (NL : Int) := by omega
      generalize (bl L).getD j 0 = q at *
      generalize (zs L).getD j [] = z at *
      have HSC := hid hsc
      have HRW := hid hrow
      have HTK := hid htk
      have HCH := hid hch
      have HZM := hid hzm
      have HCL := hid hcl
      have hB2 := hid B2
      have o5 : wr.cell? ⟨w.heap.size, 5, none⟩ = some (.slice (some ⟨w.heap.size + 1, 0, none⟩) NL NL) := by rw [cell_of HSC.out]; rfl
      clear x0 hsc hrow htk hch hzm hcl B2 c5
      go_wp2_with fail
      go_region_with
        (first
          | (go_at_call 128
             (with_reducible refine (copy_ok q sz z _ HQ.out (by omega) (by omega)).mono ?_)
             rintro e W4 ⟨o4, rfl, ho4, k4, b4⟩
             have b4' : Below wr.heap.size wr W4 := (drew_below (w := wr) (w' := wr.drew) ⟨1, rfl⟩).trans b4
             have HB4 := hid b4'
             have HK4 := hid k4
             have HR4 := hid ((b4'.block _ (heap_lt HRW.out)).trans HRW.out)
             have HS4 := hid ((b4'.block _ (heap_lt HSC.out)).trans HSC.out)
             have o6 : W4.cell? ⟨w.heap.size, 5, none⟩ = some (.slice (some ⟨w.heap.size + 1, 0, none⟩) NL NL) := (by rw [cell_of HS4.out]; rfl)
             have g6 : ∃ u, W4.cell? ⟨w.heap.size + 1, j, none⟩ = some u := ⟨cu[j]'(by rw [HCL.out]; exact hjn), by rw [cell_of HR4.out]; simp [HCL.out, hjn]⟩
             obtain ⟨u6, hu6⟩ := g6
             have f6 := frozen_of (o := j) HR4.out
             clear b4 b4' k4))
      all_goals
        have G5 : W4.grownBy (W4.setCell ⟨w.heap.size + 1, j, none⟩ (ptr o4)) (some (w.heap.size + 1)) := gb_set (gb_refl _ _) _ _
        have HS5 := hid (show SCell (W4.setCell ⟨w.heap.size + 1, j, none⟩ (ptr o4)) w.heap.size sz s.ret s.pol s.mx s.line (.slice (some ⟨w.heap.size + 1, 0, none⟩) NL NL) from by unfold SCell; rw [heap_set_ne (by omega)]; exact HS4.out)
        have HR5 := hid (show (W4.setCell ⟨w.heap.size + 1, j, none⟩ (ptr o4)).heap[w.heap.size + 1]? = some (.cells (cu.set j (ptr o4)).toArray 119 (0, 0)) from by
          rw [heap_set HR4.out]; simp)
        have HC5 := hid (((HCH.out.keepB HB4.out).app (Chs.one HK4.out)).keepP G5 (fun r hr => by cases hr; exact ⟨noSamp_of HR4.out (by decide), _, _, HR4.out⟩))
        have HB5 := hid (bel_gb (hB2.out.trans (HB4.out.mono s2)) (Nat.le_trans s2 HB4.out.size) (by omega) G5)
        have HT5 := hid (show (cu.set j (ptr o4)).take (j + 1) = (bl (M ++ [(o4, z)])).map ptr from by
          rw [set_take cu j (ptr o4) _ (by rw [HCL.out]; exact hjn) HTK.out, bl_app, List.map_append]; rfl)
        have HZ5 := hid (show zs (M ++ [(o4, z)]) = (zs L).take (j + 1) from by rw [zs_app, HZM.out, HZN.out]; rfl)
        have HL5 := hid (show (cu.set j (ptr o4)).length = NL from by rw [List.length_set]; exact HCL.out)
        unfold ptr at HS5 HR5 HC5 HB5
        clear G5 o5 o6 hu6 f6 x1
        generalize W4.setCell ⟨w.heap.size + 1, j, none⟩ (.pointer (some ⟨o4, 0, none⟩)) = W5 at *
        go_wp2
        go_roundw
        case rel => exact ⟨j + 1, M ++ [(o4, z)], cu.set j (ptr o4), by omega, by go_num, HS5.out, HR5.out, HL5.out, HT5.out, HC5.out, HZ5.out, HB5.out⟩
        case measure => simp [intOf]; omega
    · obtain rfl : NL = j := by omega
      have HZ := hid (show zs M = zs L from by rw [hzm, ← HNL.out, ← zs_len, List.take_length])
      have HML := hid (show M.length = NL from by rw [← zs_len, HZ.out, zs_len, HNL.out])
      have HPP := hid (show Ptrs wr (some ⟨w.heap.size + 1, 0, none⟩) NL NL (bl M) from by
        refine ⟨by rw [bl_len, HML.out], Nat.le_refl _, by omega, ?_⟩
        by_cases h0 : NL = 0
        · exact .inl h0
        · refine .inr ⟨w.heap.size + 1, 0, cu.toArray, (0, 0), rfl, hrow, fun i hi => ?_⟩
          have hcu : cu = (bl M).map ptr := by rw [← htk, ← hcl, List.take_length]
          rw [Nat.zero_add, List.getElem?_toArray, hcu, List.getElem?_map, List.getElem?_eq_getElem hi]; rfl)
      have HSR := hid (show SerAt wr w.heap.size sz s from ⟨M, ⟨some ⟨w.heap.size + 1, 0, none⟩, NL, by rw [HML.out]; exact hsc, by rw [HML.out]; exact HPP.out, hch⟩, by rw [HZ.out]; exact HG.out, by rw [HZ.out]; exact HF.out⟩)
      clear hsc hrow htk hch hzm hcl c5
      go_wp2
      go_ret
      exact ⟨w.heap.size, rfl, Nat.le_refl _, HSR.out, B2⟩
end Go.Proofs.YtmifpfojhlmbkaaGreat
