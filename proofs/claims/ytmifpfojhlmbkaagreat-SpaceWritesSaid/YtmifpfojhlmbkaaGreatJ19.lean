/-
  Contracts.
-/
import Derived.Test.YtmifpfojhlmbkaaGreatJ18
namespace Go.Proofs.YtmifpfojhlmbkaaGreat
open Lib (hid)
set_option maxRecDepth 100000
set_option maxHeartbeats 16000000
open Go.RowKit
set_option linter.unusedVariables false
set_option linter.unusedSimpArgs false
theorem map_take_drop (Y : List (List (Int × Int))) (x y : Int) (j : Nat) (h : j < Y.length) : ((Y.take (j + 1)).map fun z => dropL z x y).flatten = ((Y.take j).map fun z => dropL z x y).flatten ++ dropL (Y.getD j []) x y := by
  rw [List.take_succ_eq_append_getElem h, List.map_append, List.flatten_append, chunk_get h]
  simp
theorem sum_map_take (Y : List (List (Int × Int))) (x y : Int) (j : Nat) (h : j < Y.length) : ((Y.take (j + 1)).map fun z => dropN z x y).sum = ((Y.take j).map fun z => dropN z x y).sum + dropN (Y.getD j []) x y := by
  rw [List.take_succ_eq_append_getElem h, List.map_append, List.sum_append, chunk_get h]
  simp
theorem sum_map_le (Y : List (List (Int × Int))) (x y : Int) (j : Nat) : ((Y.take j).map fun z => dropN z x y).sum ≤ Y.flatten.length := by
  have h1 := map_drop_len (Y.take j) x y
  have h2 : (Y.take j).flatten.length ≤ Y.flatten.length := sumTo_le Y j
  omega
def DelI (x y : Int) (sz : Int) (Y : List (List (Int × Int))) (n j : Nat) (many i v : Value) (P : List (Nat × List (Int × Int))) (w wr : World) : Prop :=
  j ≤ n ∧ i = .int .i64 (j : Int) ∧ many = .int .i64 (((Y.take j).map fun z => dropN z x y).sum : Nat) ∧ PRow wr w.heap.size v (bl P) ∧ Chs wr sz P ∧ (zs P).flatten = ((Y.take j).map fun z => dropL z x y).flatten ∧ (∀ u ∈ zs P, Fit sz u) ∧ P.length ≤ j + (zs P).flatten.length ∧ Below w.heap.size w wr
def NumS (b : Nat) (sz : Int) (n : Nat) (s' : Ser) (w : World) (e : Ending) (w' : World) : Prop := e = .returned (.int .i64 (n : Int)) ∧ SerAt w' b sz s' ∧ w.grownBy w' (some b)
theorem del_any (b : Nat) (sz : Int) (s : Ser) (x y : Int) (w : World) (h : SerAt w b sz s) (hs : 128 ≤ sz) (hs2 : sz ≤ 4096) (hr : Rising s.z) (hn : s.z.length ≤ 100000) :
    Calls Tryz.prog 77 #[.pointer (some ⟨b, 0, none⟩), .int .i64 x, .int .i64 y] w (NumS b sz (dropN s.z x y) (delS s x y) w) := by
  have HSer := hid h
  obtain ⟨L, hM, hg, hf⟩ := h
  have HM := hid hM
  obtain ⟨a, cap, hc, hpt, hk⟩ := hM
  have hne := good_ne hg
  have hrz : Rising (zs L).flatten := by rw [hf]; exact hr
  have hLn : L.length ≤ s.z.length := by rw [← hf, ← zs_len]; exact flat_ge hne
  have hw := win_le hrz hne x y
  have HWK := hid (win_kept hrz hne x y)
  have HSUM := hid (del_sum hrz hne x y)
  rw [hf] at HWK HSUM
  rw [zs_len] at hw
  have hlz : (zs L).flatten.length ≤ 100000 := by rw [hf]; exact hn
  have HC := hid hc
  have HPT := hid hpt
  have HK := hid hk
  have HF := hid hf
  have HG := hid hg
  have HRZ := hid hrz
  have HNE := hid hne
  have HR0 := hid hr
  obtain ⟨f, hff⟩ : ∃ f, winA (zs L) x y = f := ⟨_, rfl⟩
  obtain ⟨m, hmm⟩ : ∃ m, winB (zs L) x y = m := ⟨_, rfl⟩
  have HWF := hid hff
  have HWM := hid hmm
  rw [hff, hmm] at hw HWK HSUM
  have HY := hid (zs_mid L f m)
  have hmid := three L f m hw.1
  have HMID := hid hmid.symm
  have HYM : Hid (∀ u ∈ midL L f m, u ∈ L) := hid (fun u hu => List.mem_of_mem_take (List.mem_of_mem_drop hu))
  have HYL := hid (show (midL L f m).length = m - f from by unfold midL; simp; omega)
  have HYS := hid (show (zs (midL L f m)).flatten.length ≤ 100000 from by
    rw [HY.out]
    have := congrArg (fun l => (List.flatten l).length) (three (zs L) f m hw.1)
    simp only [List.flatten_append, List.length_append] at this
    omega)
  obtain ⟨a1, S1, P1⟩ := ptrs_lh hpt f m hw.1 hw.2
  rw [← bl_mid] at P1
  rw [← HY.out] at HWK HSUM
  have HP1 := hid P1
  have HKY := hid (hk.sub HYM.out)
  have HLA := hid (show (L.take f).length = f from by rw [List.length_take]; omega)
  have HZA := hid (zs_take L f)
  have HZC := hid (zs_drop L m)
  rw [← HZA.out, ← HZC.out] at HWK
  have HGA := hid (show Good sz (zs (L.take f)) from by rw [zs_take]; exact good_left (y := (zs L).drop f) (by rw [List.take_append_drop]; exact hg))
  have HGC := hid (show Good sz (zs (L.drop m)) from by rw [zs_drop]; exact good_right (x := (zs L).take m) (by rw [List.take_append_drop]; exact hg))
  clear hc hpt hk hf hg hrz hne hr P1 hmid hff hmm
  generalize hYY : midL L f m = Y at *
  obtain ⟨NL, hNL⟩ : ∃ NL, L.length = NL := ⟨_, rfl⟩
  rw [hNL] at HC HPT hw hLn S1
  have HNL := hid hNL
  obtain ⟨n, hnn⟩ : ∃ n, m - f = n := ⟨_, rfl⟩
  rw [hnn] at HYL HP1 S1
  clear hNL hYY
  have HFM := hid (show m = f + n from by omega)
  have hnb : n ≤ 100000 := by omega
  clear hnn
  obtain ⟨c1, hc1⟩ : ∃ c1, cap - f = c1 := ⟨_, rfl⟩
  rw [hc1] at HP1 S1
  clear hc1
  go_enter Tryz.func77, Tryz.ntmps77
  go_wp2_with fail
  refine (slist_cell b sz _ _ _ _ a NL cap w HC.out (by omega)).mono ?_
  rintro e w' ⟨rfl, rfl⟩
  go_wp2_with fail
  refine (window_any a NL cap L sz x y w HPT.out HK.out (by omega) (by omega) HRZ.out HNE.out (by omega)).mono ?_
  rintro e W1 ⟨rfl, b1⟩
  rw [HWF.out, HWM.out]
  have HC1 := hid (HC.out.keep (gb_below (row := none) b1) (by simp))
  go_wp2_with fail
  refine (slist_cell b sz _ _ _ _ a NL cap _ HC1.out (by omega)).mono ?_
  rintro e w' ⟨rfl, rfl⟩
  have HB1 := hid b1
  clear b1
  go_wp2_with fail
  go_loopw [9, 10, 27] (fun many v i wr => ∃ (j : Nat) (P : List (Nat × List (Int × Int))), DelI x y sz (zs Y) n j many i v P w wr) (fun _ _ i _ => n - (intOf i).toNat)
  case atStart => exact ⟨0, [], Nat.zero_le _, rfl, rfl, PRow.nil _ _, (fun u hu => by cases hu), rfl, (fun u hu => by simp [zs] at hu), by simp, HB1.out⟩
  case round =>
    obtain ⟨j, P, hj, rfl, rfl, rP, cP, hzP, hfP, hlP, B2⟩ := hrel
    have s2 := B2.size
    have HRP := hid rP
    have HCP := hid cP
    have HZP := hid hzP
    have HFP := hid hfP
    have HLP := hid hlP
    clear rP cP hzP hfP hlP
    by_cases hjn : j < n
    · have hjY : j < Y.length := by rw [HYL.out]; exact hjn
      obtain ⟨pb, po, hpe, hpb, x0⟩ := HP1.out.at_ j hjn
      subst hpe
      unfold ptr at x0
      have x1 := (B2.cell (p := ⟨pb, po + j, none⟩) hpb).trans x0
      have HQ : Hid (PCk wr ((bl Y).getD j 0) sz ((zs Y).getD j [])) := hid ((HKY.out.keepB B2).get (i := j) hjY)
      have HZR := hid (show Rising ((zs Y).getD j []) from by
        rw [zs_get hjY]
        exact flat_rising HRZ.out (List.mem_map.2 ⟨Y[j], HYM.out _ (List.getElem_mem hjY), rfl⟩))
      have hzl : ((zs Y).getD j []).length ≤ 100000 := Nat.le_trans (flat_len_get _ _) HYS.out
      have HS1 := hid (map_take_drop (zs Y) x y j (by rw [zs_len]; exact hjY))
      have HS2 := hid (sum_map_take (zs Y) x y j (by rw [zs_len]; exact hjY))
      have hsb := sum_map_le (zs Y) x y j
      have hsb2 := sum_map_le (zs Y) x y (j + 1)
      have hPf : (zs P).flatten.length ≤ 100000 := by
        rw [HZP.out]
        have h1 := map_drop_len ((zs Y).take j) x y
        have h2 : ((zs Y).take j).flatten.length ≤ (zs Y).flatten.length := sumTo_le (zs Y) j
        have := HYS.out
        omega
      have hys := HYS.out
      rw [HS2.out] at hsb2
      generalize (bl Y).getD j 0 = q at *
      generalize (zs Y).getD j [] = z at *
      obtain ⟨dn, hdn⟩ : ∃ dn, dropN z x y = dn := ⟨_, rfl⟩
      obtain ⟨dl, hdl⟩ : ∃ dl, dropL z x y = dl := ⟨_, rfl⟩
      have hdll : dl.length ≤ 100000 := by rw [← hdl, dropL_length]; omega
      rw [hdn] at HS2 hsb2
      rw [hdl] at HS1
      have HDN := hid hdn
      have HDL := hid hdl
      clear hdn hdl
      obtain ⟨sm, hsm⟩ : ∃ sm, ((((zs Y).take j).map fun z => dropN z x y).sum) = sm := ⟨_, rfl⟩
      rw [hsm] at hsb hsb2 HS2 ⊢
      clear hsm x0
      have hj0 : (0 : Int) ≤ (j : Int) := by omega
      have hj1 : (j : Int) < (n : Int) := by omega
      go_wp2_with fail
      refine (copy_ok q sz z _ HQ.out (by omega) (by omega)).mono ?_
      rintro e W3 ⟨o3, rfl, ho3, k3, b3⟩
      have HK3 := hid k3
      clear k3
      go_wp2_with fail
      refine (drop_at o3 sz z x y dn dl _ (by rw [HDN.out]) HDL.out HK3.out (by omega) HZR.out (by omega)).mono ?_
      rintro e W4 ⟨rfl, k4, g4⟩
      have HB4 : Hid (Below wr.heap.size wr W4) := hid (bel_gb b3 b3.size ho3 g4)
      have HK4 : Hid (PCk W4 o3 sz dl) := hid k4
      clear k4 g4 b3 HK3
      go_wp2_with fail
      refine (fitting_any sz hs hs2 dl.length o3 dl W4 (Nat.le_refl _) (by omega) HK4.out).mono ?_
      rintro e W5 ⟨v5, M, rfl, r5, c5, z5, f5, _, l5, g5⟩
      have B5 : Below wr.heap.size wr W5 := bel_gb HB4.out HB4.out.size ho3 g5
      obtain ⟨a5, cap5, rfl, P5⟩ := r5.shape
      rw [bl_len] at P5 ⊢
      have r6 := HRP.out.keepB B5
      have HC6 := hid (HCP.out.keepB B5)
      have HC5 := hid c5
      have BW := B2.trans (B5.mono s2)
      have sW := BW.size
      have HZ5 := hid z5
      have HF5 := hid f5
      have hml : M.length ≤ 1 + dl.length := by omega
      have hPl := HLP.out
      have happ : (bl P).length + M.length ≤ 1048576 := by rw [bl_len]; omega
      clear r5 c5 z5 f5 l5 g5 HB4 HK4 HQ x1
      go_wp2_with (at_builtin; (refine wpList_append_ptrs ?_ (.tmp 39) (.tmp 41) rfl w.heap.size _ (bl P) rfl r6 _ M.length cap5 (bl M) rfl P5 happ sW ?_))
      intro v7 W7 r7 g7
      have HC7 := hid ((HC6.out.app HC5.out).app_keep r6 g7)
      have B7 := r6.bel BW sW (Nat.le_refl _) g7
      rw [← bl_app] at r7
      have HR7 := hid r7
      have HB7 := hid B7
      have HZ7 := hid (show (zs (P ++ M)).flatten = (((zs Y).take (j + 1)).map fun z => dropL z x y).flatten from by rw [zs_app, List.flatten_append, HZP.out, HZ5.out, HS1.out])
      have HF7 := hid (show ∀ u ∈ zs (P ++ M), Fit sz u from fun u hu => by
        rw [zs_app] at hu
        rcases List.mem_append.1 hu with h | h
        · exact HFP.out u h
        · exact HF5.out u h)
      have HL7 := hid (show (P ++ M).length ≤ j + 1 + (zs (P ++ M)).flatten.length from by
        rw [zs_app, List.flatten_append, List.length_append, List.length_append, HZ5.out]; omega)
      clear r6 r7 g7 P5 B5 BW B7
      go_wp2
      go_roundw
      case rel => exact ⟨j + 1, P ++ M, by omega, by go_num, by rw [HS2.out]; go_num, HR7.out, HC7.out, HZ7.out, HF7.out, HL7.out, HB7.out⟩
      case measure => simp [intOf]; omega
    · obtain rfl : n = j := by omega
      have HT := hid (show (zs Y).take n = zs Y from by rw [← HYL.out, ← zs_len, List.take_length])
      rw [HT.out] at HZP
      rw [HT.out, ← HSUM.out]
      obtain ⟨D, hD⟩ : ∃ D, dropN s.z x y = D := ⟨_, rfl⟩
      have hDn : D ≤ 100000 := by have := dropN_len s.z x y; omega
      rw [hD]
      have HD := hid hD
      clear hD
      obtain ⟨a5, cap5, hv5, P5⟩ := HRP.out.shape
      subst hv5
      rw [bl_len] at P5
      by_cases hD0 : 0 < D
      · have hD1 : (0 : Int) < (D : Int) := by omega
        have HMW : Hid (SMem wr b sz s.ret s.pol s.mx s.line (L.take f ++ Y ++ L.drop m)) := hid (by rw [← HMID.out]; exact HM.out.keepB B2)
        have HLS := hid (show (L.take f ++ Y ++ L.drop m).length ≤ 262144 from by rw [← HMID.out, HNL.out]; omega)
        have HEQ := hid (show dropL s.z x y = (zs (L.take f)).flatten ++ (zs P).flatten ++ (zs (L.drop m)).flatten from by rw [HWK.out, HZP.out])
        have HRI := hid (dropL_rising HR0.out x y)
        have hdl : (dropL s.z x y).length ≤ 100000 := by rw [dropL_length]; omega
        have hPl : P.length ≤ 200000 := by
          have h1 := HLP.out
          have h2 := congrArg List.length HEQ.out
          simp only [List.length_append] at h2
          omega
        have HPL : Hid ((bl P).length = P.length) := hid (bl_len P)
        rw [HPL.out]
        obtain ⟨np, hnp⟩ : ∃ np, P.length = np := ⟨_, rfl⟩
        rw [hnp] at hPl P5 ⊢
        have HNP := hid hnp
        have HP5 := hid P5
        clear hnp P5
        go_wp2_with fail
        refine (replace_at b sz s.ret s.pol s.mx s.line (L.take f) Y (L.drop m) P _ _ a5 np cap5 _ _ wr (by rw [HLA.out]) (by rw [HLA.out, HYL.out, ← HFM.out]) HNP.out rfl HEQ.out HMW.out HP5.out HCP.out hs hs2 HRI.out (by omega) HLS.out hPl).mono ?_
        rintro e W8 ⟨⟨v8, rfl⟩, ⟨L8, M8, z8⟩, g8⟩
        have HS8 := hid (show SerAt W8 b sz (delS s x y) from ⟨L8, M8, by rw [z8]; exact repl_good hs HGA.out HGC.out HFP.out, by rw [z8, repl_flat]; exact HEQ.out.symm⟩)
        have G8 := hid (gb_trans (gb_below (row := some b) B2) g8)
        clear M8 z8 g8
        go_wp2
        go_ret
        exact ⟨by rw [HD.out]; rfl, HS8.out, G8.out⟩
      · have hD1 : ¬ (0 : Int) < (D : Int) := by omega
        have HE := hid (show delS s x y = s from by unfold delS; rw [dropN_zero (by rw [HD.out]; omega)])
        go_wp2
        go_ret
        exact ⟨by rw [HD.out]; rfl, by rw [HE.out]; exact HSer.out.keepB B2, gb_below B2⟩
theorem SMem.turn {w w' : World} {b : Nat} {sz ret pol mx line ret' pol' mx' line' : Int} {L : List (Nat × List (Int × Int))} (h : SMem w b sz ret pol mx line L) (g : w.grownBy w' (some b)) (hc : ∀ v, SCell w b sz ret pol mx line v → SCell w' b sz ret' pol' mx' line' v) : SMem w' b sz ret' pol' mx' line' L := by
  obtain ⟨a, cap, h1, h2, h3⟩ := h
  refine ⟨a, cap, hc _ h1, h2.keep g (fun r hr => by cases hr; exact h1.noPtr), fun x hx => ?_⟩
  have hx' := h3 x hx
  refine CAt.keep hx' g (fun e => ?_) h1.noSamp
  obtain ⟨a', cap', hc', _⟩ := hx'
  rw [e, show w.heap[b]? = _ from h1] at hc'
  simp at hc'
theorem SerAt.setLine {w : World} {b : Nat} {sz : Int} {s : Ser} (h : SerAt w b sz s) (v : Int) : SerAt (w.setCell ⟨b, 4, none⟩ (.int .i64 v)) b sz ⟨s.ret, s.pol, s.mx, v, s.z⟩ := by
  obtain ⟨L, h1, h2⟩ := h
  exact ⟨L, h1.turn (gb_set (gb_refl _ _) _ _) (fun u hu => heap_set (o := 4) (v := .int .i64 v) hu), h2⟩
theorem SerAt.setMax {w : World} {b : Nat} {sz : Int} {s : Ser} (h : SerAt w b sz s) (v : Int) : SerAt (w.setCell ⟨b, 3, none⟩ (.int .i64 v)) b sz ⟨s.ret, s.pol, v, s.line, s.z⟩ := by
  obtain ⟨L, h1, h2⟩ := h
  exact ⟨L, h1.turn (gb_set (gb_refl _ _) _ _) (fun u hu => heap_set (o := 3) (v := .int .i64 v) hu), h2⟩
theorem SerAt.setRet {w : World} {b : Nat} {sz : Int} {s : Ser} (h : SerAt w b sz s) (v : Int) : SerAt (w.setCell ⟨b, 1, none⟩ (.int .i64 v)) b sz ⟨v, s.pol, s.mx, s.line, s.z⟩ := by
  obtain ⟨L, h1, h2⟩ := h
  exact ⟨L, h1.turn (gb_set (gb_refl _ _) _ _) (fun u hu => heap_set (o := 1) (v := .int .i64 v) hu), h2⟩
theorem SerAt.setPol {w : World} {b : Nat} {sz : Int} {s : Ser} (h : SerAt w b sz s) (v : Int) : SerAt (w.setCell ⟨b, 2, none⟩ (.int .i64 v)) b sz ⟨s.ret, v, s.mx, s.line, s.z⟩ := by
  obtain ⟨L, h1, h2⟩ := h
  exact ⟨L, h1.turn (gb_set (gb_refl _ _) _ _) (fun u hu => heap_set (o := 2) (v := .int .i64 v) hu), h2⟩
def DoneP (b : Nat) (sz : Int) (s' : Ser) (w : World) (e : Ending) (w' : World) : Prop := (∃ v, e = .returned v) ∧ SerAt w' b sz s' ∧ w.grownBy w' (some b)
theorem trim_any (b : Nat) (sz : Int) (s : Ser) (w : World) (h : SerAt w b sz s) (hs : 128 ≤ sz) (hs2 : sz ≤ 4096) (hr : Rising s.z) (hn : s.z.length ≤ 100000)
    (r0 : 0 ≤ s.ret) (r1 : s.ret ≤ 1099511627776) (m0 : -1 ≤ s.mx) (m1 : s.mx < 1099511627776) (l0 : 0 ≤ s.line) (l1 : s.line < 1099511627776) :
    Calls Tryz.prog 156 #[.pointer (some ⟨b, 0, none⟩)] w (DoneP b sz (trimS s) w) := by
  have HS := hid h
  obtain ⟨v, hc⟩ := h.cell
  have HC := hid hc
  have c1 : w.cell? ⟨b, 1, none⟩ = some (.int .i64 s.ret) := by rw [cell_of hc]; rfl
  have c3 : w.cell? ⟨b, 3, none⟩ = some (.int .i64 s.mx) := by rw [cell_of hc]; rfl
  have c4 : w.cell? ⟨b, 4, none⟩ = some (.int .i64 s.line) := by rw [cell_of hc]; rfl
  have f4 := frozen_of (o := 4) hc
  have HR := hid hr
  clear h hc hr
  by_cases hret : 0 < s.ret
  · have hd : (s.mx - s.ret ≤ s.line ∧ lineS s = s.line) ∨ (¬ (s.mx - s.ret ≤ s.line) ∧ lineS s = s.mx - s.ret) := by unfold lineS; rw [if_pos hret]; omega
    have hwr : IntKind.i64.wrap (s.mx - s.ret) = s.mx - s.ret := IntWalk.i64_in _ ⟨by omega, by omega⟩
    rcases hd with ⟨hd, hl⟩ | ⟨hd, hl⟩
    all_goals
      have HL := hid hl
      clear hl
      go_enter Tryz.func156, Tryz.ntmps156
      go_wp2_with fail
      go_region
    all_goals
      have HL' := HL.out
      rw [← HL']
      have S1 : Hid (SerAt (w.setCell ⟨b, 4, none⟩ (.int .i64 (lineS s))).drew b sz ⟨s.ret, s.pol, s.mx, lineS s, s.z⟩) := hid (HS.out.setLine (lineS s))
      have G1 : Hid (w.grownBy (w.setCell ⟨b, 4, none⟩ (.int .i64 (lineS s))).drew (some b)) := hid (gb_drew (gb_set (gb_refl _ _) _ _))
      have l2 : 0 ≤ lineS s := by omega
      have l3 : lineS s < 1099511627776 := by omega
      clear HL' HL c1 c3 c4 f4 hd
      generalize (w.setCell ⟨b, 4, none⟩ (.int .i64 (lineS s))).drew = W1 at *
      obtain ⟨u1, hu1⟩ := S1.out.cell
      have c4 : W1.cell? ⟨b, 4, none⟩ = some (.int .i64 (lineS s)) := by rw [cell_of hu1]; rfl
      clear hu1
      have HT := hid (show trimS s = delS ⟨s.ret, s.pol, s.mx, lineS s, s.z⟩ 0 (lineS s - 1) from rfl)
      generalize lineS s = ln at *
      go_wp2_with fail
      refine (del_any b sz ⟨s.ret, s.pol, s.mx, ln, s.z⟩ 0 (ln - 1) W1 S1.out hs hs2 HR.out hn).mono ?_
      rintro e W2 ⟨rfl, S2, g2⟩
      have HS2 := hid S2
      have HG2 := hid (gb_trans G1.out g2)
      clear S2 g2
      generalize dropN (Ser.mk s.ret s.pol s.mx ln s.z).z 0 (ln - 1) = dn at *
      go_wp2
      go_end0
      exact ⟨⟨_, rfl⟩, by rw [HT.out]; exact HS2.out, HG2.out⟩
  · have HL := hid (show lineS s = s.line from by unfold lineS; rw [if_neg hret])
    have HT := hid (show trimS s = delS s 0 (s.line - 1) from by unfold trimS delS; rw [HL.out])
    go_enter Tryz.func156, Tryz.ntmps156
    go_wp2_with fail
    refine (del_any b sz s 0 (s.line - 1) w HS.out hs hs2 HR.out hn).mono ?_
    rintro e W2 ⟨rfl, S2, g2⟩
    have HS2 := hid S2
    have HG2 := hid g2
    clear S2 g2
    generalize dropN s.z 0 (s.line - 1) = dn at *
    go_wp2
    go_end0
    exact ⟨⟨_, rfl⟩, by rw [HT.out]; exact HS2.out, HG2.out⟩
theorem alter_any (b : Nat) (sz : Int) (s : Ser) (ret p : Int) (w : World) (h : SerAt w b sz s) (hS : Std s) (hs : 128 ≤ sz) (hs2 : sz ≤ 4096) (hn : s.z.length ≤ 100000) :
    Calls Tryz.prog 87 #[.pointer (some ⟨b, 0, none⟩), .int .i64 ret, .int .i64 p] w (PutP b sz (altE ret p) (altS s ret p) w) := by
  have HS := hid h
  obtain ⟨v, hc⟩ := h.cell
  have HC := hid hc
  have HST := hid hS
  clear h hc hS
  by_cases hk : keepB ret p
  · have HE := hid (show altE ret p = 0 from by unfold altE; rw [if_pos hk])
    have HA := hid (show altS s ret p = trimS ⟨ret, p, s.mx, s.line, s.z⟩ from by unfold altS; rw [if_pos hk])
    have HK := hid (decide_eq_true hk)
    obtain ⟨⟨k1, k2⟩, k3, k4⟩ := hk
    have c1 : w.cell? ⟨b, 1, none⟩ = some (.int .i64 s.ret) := by rw [cell_of HC.out]; rfl
    have c2 : w.cell? ⟨b, 2, none⟩ = some (.int .i64 s.pol) := by rw [cell_of HC.out]; rfl
    have f1 := frozen_of (o := 1) HC.out
    have f2 := frozen_of (o := 2) HC.out
    go_enter Tryz.func87, Tryz.ntmps87
    go_wp2_with fail
    refine (sNone_no b sz _ _ _ _ v w HC.out (by omega)).mono ?_
    rintro e w' ⟨rfl, rfl⟩
    go_wp2_with fail
    refine (canKeep_any ret p true w HK.out).mono ?_
    rintro e w' ⟨rfl, rfl⟩
    have S1 := hid ((HS.out.setRet ret).setPol p)
    have G1 := hid (gb_set (gb_set (gb_refl w (some b)) 1 (.int .i64 ret)) 2 (.int .i64 p))
    go_wp2_with fail
    generalize (w.setCell ⟨b, 1, none⟩ (.int .i64 ret)).setCell ⟨b, 2, none⟩ (.int .i64 p) = W1 at *
    have hst := HST.out
    have hm := hst.l1
    refine (trim_any b sz ⟨ret, p, s.mx, s.line, s.z⟩ W1 S1.out hs hs2 hst.rise hn k1 k2 hst.m0 hst.m1 hst.l0 (by have := hst.m1; show s.line < _; omega)).mono ?_
    rintro e W2 ⟨⟨u, rfl⟩, S2, g2⟩
    have HS2 := hid S2
    have HG2 := hid (gb_trans G1.out g2)
    clear S2 g2 hst hm
    go_wp2
    go_ret
    exact ⟨by rw [HE.out]; rfl, by rw [HA.out]; exact HS2.out, HG2.out⟩
  · have HE := hid (show altE ret p = 1 from by unfold altE; rw [if_neg hk])
    have HA := hid (show altS s ret p = s from by unfold altS; rw [if_neg hk])
    have HK := hid (decide_eq_false hk)
    clear hk
    go_enter Tryz.func87, Tryz.ntmps87
    go_wp2_with fail
    refine (sNone_no b sz _ _ _ _ v w HC.out (by omega)).mono ?_
    rintro e w' ⟨rfl, rfl⟩
    go_wp2_with fail
    refine (canKeep_any ret p false w HK.out).mono ?_
    rintro e w' ⟨rfl, rfl⟩
    go_wp2
    go_ret
    exact ⟨by rw [HE.out]; rfl, by rw [HA.out]; exact HS.out, gb_refl _ _⟩
end Go.Proofs.YtmifpfojhlmbkaaGreat
