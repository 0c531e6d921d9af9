/-
  Contracts of the document's answers of layer 9 that build: Sorted, Drop, Set.
-/
import Derived.Test.YtpkbkemenfdadaaIRefA
import Derived.Test.YtpkbkemenfdadaaITake
namespace Go.Proofs.Ytpkbkemenfdadaa
open Go.RowKit
set_option linter.unusedVariables false
set_option linter.unusedSimpArgs false

theorem insG_lt {x y : Lb} {L : List Lb} (h : y.1 < x.1) : insG x (y :: L) = y :: insG x L := if_pos h
theorem insG_ge {x y : Lb} {L : List Lb} (h : ¬ y.1 < x.1) : insG x (y :: L) = x :: y :: L := if_neg h
theorem lb_drop {l : List Lb} {j : Nat} (h : j < l.length) : l.drop j = (lN l j, lV l j) :: l.drop (j + 1) := by rw [← lb_get h]; exact List.drop_eq_getElem_cons h
theorem srt_snoc {l : List Lb} {j : Nat} (h : j < l.length) : srt (l.take (j + 1)) = insG (lN l j, lV l j) (srt (l.take j)) := by
  rw [take_snoc9 h]
  unfold srt
  rw [List.foldl_append]; rfl

set_option maxRecDepth 100000 in
set_option maxHeartbeats 8000000 in
theorem rsorted_any (a : Option Addr) (n c : Nat) (l : List Lb) (w : World) (h : LbAt w a n c l) (hr : ∀ x ∈ l, x.1.length ≤ 64) (hn : n ≤ 1000) :
    Calls Try.prog 41 #[.slice a n c] w fun e w' => ∃ v, e = .returned v ∧ LRow w' w.heap.size v (srt l) ∧ Below w.heap.size w w' := by
  have HL := Lib.hid h
  have HN := Lib.hid h.1
  have HR := Lib.hid hr
  have H0 := Lib.hid (show [] = srt (l.take 0) from rfl)
  clear h hr
  go_enter Try.func41, Try.ntmps41
  go_wp2_with fail
  go_loopw [3, 4] (fun vo vi wr => ∃ (j : Nat) (o : List Lb), vi = .int .i64 (j : Int) ∧ j ≤ n ∧ o.length = j ∧ Hid (LRow wr w.heap.size vo o) ∧ Hid (Below w.heap.size w wr) ∧ Hid (o = srt (l.take j))) (fun _ vi _ => n - (intOf vi).toNat)
  case atStart => exact ⟨0, [], rfl, Nat.zero_le _, rfl, Lib.hid (LRow.nil _ _), Lib.hid (Below.refl _ _), H0⟩
  case round =>
    clear H0
    obtain ⟨j, o, rfl, hj, hol, HO, HBO, HS⟩ := hrel
    by_cases hjn : j < n
    · have hjz : (j : Int) < (n : Int) := by omega
      have hj0 : (0 : Int) ≤ (j : Int) := by omega
      have hjl : j < l.length := by rw [HN.out]; exact hjn
      have HSN := Lib.hid (show insG (lN l j, lV l j) o = srt (l.take (j + 1)) from by rw [srt_snoc hjl, HS.out])
      have HX := Lib.hid (HR.out _ (lb_mem hjl))
      have HSH := Lib.hid (show ∀ y ∈ o, y.1.length ≤ 64 from fun y hy => by
        rw [HS.out] at hy
        exact HR.out y (List.mem_of_mem_take (mem_srt.1 hy)))
      obtain ⟨ao, co, rfl, to⟩ := HO.out.shape
      rw [hol] at to
      rw [hol]
      have TO := Lib.hid to
      obtain ⟨pb, po, rfl, hpb, y0, y1⟩ := (HL.out.keep HBO.out).at_ j hjn
      have hpw : pb < wr.heap.size := hpb
      generalize lN l j = xn at *
      generalize lV l j = xv at *
      have HY0 := Lib.hid y0
      have HY1 := Lib.hid y1
      have HI0 := Lib.hid (show ([] : List Lb) ++ insG (xn, xv) (o.drop 0) = insG (xn, xv) o from rfl)
      clear hjl y0 y1 to HO HS
      obtain ⟨wo, hwo⟩ : ∃ wo : World, wo = wr := ⟨_, rfl⟩
      have HWR := Lib.hid (Below.refl wr.heap.size wr)
      go_wp2_with fail
      subst hwo
      go_loopw [5, 6] (fun vx vk wr => ∃ (k : Nat) (nx : List Lb), vk = .int .i64 (k : Int) ∧ k ≤ j ∧ nx.length = k ∧ Hid (LRow wr wo.heap.size vx nx) ∧ Hid (Below wo.heap.size wo wr) ∧ Hid (nx ++ insG (xn, xv) (o.drop k) = insG (xn, xv) o)) (fun _ vk _ => j - (intOf vk).toNat)
      case atStart => exact ⟨0, [], rfl, Nat.zero_le _, rfl, Lib.hid (LRow.nil _ _), HWR, HI0⟩
      case round =>
        clear HWR HI0
        obtain ⟨k, nx, rfl, hk, hnl, HOn, HBn, HM⟩ := hrel
        have z0 : wr.cell? ⟨pb, po + j * 2, none⟩ = some (.string (bs xn)) := (HBn.out.cell (p := ⟨pb, po + j * 2, none⟩) hpw).trans HY0.out
        have z1 : wr.cell? ⟨pb, po + j * 2 + 1, none⟩ = some (.string (bs xv)) := (HBn.out.cell (p := ⟨pb, po + j * 2 + 1, none⟩) hpw).trans HY1.out
        have T1 := TO.out.keep HBn.out
        by_cases hkj : k < j
        · have hkz : (k : Int) < (j : Int) := by omega
          have hk0 : (0 : Int) ≤ (k : Int) := by omega
          have hko : k < o.length := by rw [hol]; exact hkj
          obtain ⟨qb, qo, e1, hqb, x0, x1⟩ := T1.at_ k hkj
          have HD := Lib.hid (lb_drop hko)
          have HQ := Lib.hid (HSH.out _ (lb_mem hko))
          have HBL := Lib.hid (fun W => rbelow_any (lN o k) xn W (by have : (lN o k).length ≤ 64 := HQ.out; omega) (by have : xn.length ≤ 64 := HX.out; omega))
          obtain ⟨a3, hs3, T3⟩ := TO.out.from_ k (by omega)
          have HT3 := Lib.hid T3
          subst e1
          have hbs : qb < wr.heap.size := hqb
          by_cases he : lN o k < xn
          · rw [decide_eq_true he] at HBL
            have HN2 := Lib.hid (show (nx ++ [(lN o k, lV o k)]) ++ insG (xn, xv) (o.drop (k + 1)) = insG (xn, xv) o from by rw [← HM.out, HD.out, insG_lt he, List.append_assoc]; rfl)
            clear he HM HD HQ T1 T3 hs3 HT3 hko
            generalize lN o k = yn at *
            generalize lV o k = yv at *
            go_wp2_with fail
            go_region_held3 (fun w' => w'.cell? ⟨qb, qo + k * 2, none⟩ = some (.string (bs yn)) ∧ w'.cell? ⟨pb, po + j * 2, none⟩ = some (.string (bs xn)))
              (first
                | exact d2.out
                | go_keep
                | fail)
              (first
                | (go_at_call 36
                   (with_reducible refine (HBL.out _).mono ?_)
                   rintro e W2 ⟨rfl, dr⟩
                   have b2 := (bel_drew (Below.refl wr.heap.size wr)).trans dr.bel
                   have d2 := Lib.hid (show W2.cell? ⟨qb, qo + k * 2, none⟩ = some (.string (bs yn)) ∧ W2.cell? ⟨pb, po + j * 2, none⟩ = some (.string (bs xn)) from ⟨(b2.cell (p := ⟨qb, qo + k * 2, none⟩) hbs).trans x0, (b2.cell (p := ⟨pb, po + j * 2, none⟩) (Nat.lt_of_lt_of_le hpw HBn.out.size)).trans z0⟩)
                   have B2 := Lib.hid b2
                   clear b2 dr)
                | fail)
            have u0 : W2.cell? ⟨qb, qo + k * 2, none⟩ = some (.string (bs yn)) := d2.out.1
            have u1 : W2.cell? ⟨qb, qo + k * 2 + 1, none⟩ = some (.string (bs yv)) := (B2.out.cell (p := ⟨qb, qo + k * 2 + 1, none⟩) hbs).trans x1
            have O1 := HOn.out.keep B2.out
            have B1 := HBn.out.trans (B2.out.mono HBn.out.size)
            have B0 := (Below.refl W2.heap.size W2).alloc (Nat.le_refl _) (.cells #[.string (bs yn), .string (bs yv)] 24)
            have HO2 := Lib.hid (O1.alloc (.cells #[.string (bs yn), .string (bs yv)] 24))
            have HT2 := Lib.hid (LbAt.one W2 (yn, yv))
            have HB2 := Lib.hid (B1.trans (B0.mono B1.size))
            clear B0 O1 B1 HOn HBn B2 d2 x0 x1 z0 z1
            go_wp2_with (at_builtin; refine wpList_append_lb rfl _ _ rfl wo.heap.size _ nx rfl HO2.out _ 1 1 [(yn, yv)] rfl HT2.out (by omega) HB2.out.size ?_)
            intro v3 W3 O3 g3
            have B3 := LRow.bel HB2.out HB2.out.size HO2.out (Nat.le_refl _) g3
            clear HO2 HB2 HT2 g3
            go_wp2
            go_roundw
            case rel => exact ⟨k + 1, _, by go_num, by omega, by rw [List.length_append, hnl]; rfl, Lib.hid O3, Lib.hid B3, HN2⟩
            case measure => simp [intOf]; omega
          · rw [decide_eq_false he] at HBL
            have HN2 := Lib.hid (show (nx ++ [(xn, xv)]) ++ o.drop k = insG (xn, xv) o from by rw [← HM.out, HD.out, insG_ge he, List.append_assoc]; rfl)
            clear he HM HD HQ T1 T3 hko
            generalize lN o k = yn at *
            generalize lV o k = yv at *
            go_wp2_with fail
            go_region_held3 (fun w' => w'.cell? ⟨qb, qo + k * 2, none⟩ = some (.string (bs yn)) ∧ w'.cell? ⟨pb, po + j * 2, none⟩ = some (.string (bs xn)))
              (first
                | exact d2.out
                | go_keep
                | fail)
              (first
                | (go_at_call 36
                   (with_reducible refine (HBL.out _).mono ?_)
                   rintro e W2 ⟨rfl, dr⟩
                   have b2 := (bel_drew (Below.refl wr.heap.size wr)).trans dr.bel
                   have d2 := Lib.hid (show W2.cell? ⟨qb, qo + k * 2, none⟩ = some (.string (bs yn)) ∧ W2.cell? ⟨pb, po + j * 2, none⟩ = some (.string (bs xn)) from ⟨(b2.cell (p := ⟨qb, qo + k * 2, none⟩) hbs).trans x0, (b2.cell (p := ⟨pb, po + j * 2, none⟩) (Nat.lt_of_lt_of_le hpw HBn.out.size)).trans z0⟩)
                   have B2 := Lib.hid b2
                   clear b2 dr)
                | fail)
            have u0 : W2.cell? ⟨pb, po + j * 2, none⟩ = some (.string (bs xn)) := d2.out.2
            have u1 : W2.cell? ⟨pb, po + j * 2 + 1, none⟩ = some (.string (bs xv)) := (B2.out.cell (p := ⟨pb, po + j * 2 + 1, none⟩) (Nat.lt_of_lt_of_le hpw HBn.out.size)).trans z1
            replace HOn := Lib.hid (HOn.out.keep B2.out)
            replace HBn := Lib.hid (HBn.out.trans (B2.out.mono HBn.out.size))
            clear B2 d2 x0 x1 z0 z1
            have O1 := HOn.out
            have B0 := (Below.refl W2.heap.size W2).alloc (Nat.le_refl _) (.cells #[.string (bs xn), .string (bs xv)] 24)
            have HO2 := Lib.hid (O1.alloc (.cells #[.string (bs xn), .string (bs xv)] 24))
            have HT2 := Lib.hid (LbAt.one W2 (xn, xv))
            have HB2 := Lib.hid (HBn.out.trans (B0.mono HBn.out.size))
            clear B0 O1 HOn HBn
            go_wp2_with (at_builtin; refine wpList_append_lb rfl _ _ rfl wo.heap.size _ nx rfl HO2.out _ 1 1 [(xn, xv)] rfl HT2.out (by omega) HB2.out.size ?_)
            intro v3 W3 O3 g3
            have B3 := LRow.bel HB2.out HB2.out.size HO2.out (Nat.le_refl _) g3
            have HT4 := Lib.hid (HT3.out.keep B3)
            have HO4 := Lib.hid O3
            have HB4 := Lib.hid B3
            clear HO2 HB2 HT2 g3 O3 B3 HT3
            go_wp2_with (at_builtin; refine wpList_append_lb rfl _ _ rfl wo.heap.size _ (nx ++ [(xn, xv)]) rfl HO4.out _ _ _ _ rfl HT4.out (by rw [List.length_append]; simp only [List.length_singleton]; omega) HB4.out.size ?_)
            intro v5 W5 O5 g5
            have B5 := LRow.bel HB4.out HB4.out.size HO4.out (Nat.le_refl _) g5
            replace O5 : LRow W5 wo.heap.size v5 (insG (xn, xv) o) := by rw [← HN2.out, List.append_assoc]; exact O5
            have O6 := Lib.hid (O5.mono HBO.out.size)
            have B6 := Lib.hid (HBO.out.trans (B5.mono HBO.out.size))
            clear HO4 HB4 g5 HT4
            go_wp2
            go_roundw
            case rel => exact ⟨j + 1, insG (xn, xv) o, by go_num, by omega, by rw [insG_len, hol], O6, B6, HSN⟩
            case measure => simp [intOf]; omega
        · have hkz : ¬ (k : Int) < (j : Int) := by omega
          obtain rfl : k = j := by omega
          have HN2 := Lib.hid (show (nx ++ [(xn, xv)]) ++ o.drop k = insG (xn, xv) o from by
            rw [← HM.out, List.drop_eq_nil_of_le (by omega), List.append_nil]; rfl)
          obtain ⟨a3, hs3, T3⟩ := TO.out.from_ k (by omega)
          rw [Nat.sub_self] at hs3 T3
          have HT3 := Lib.hid T3
          have u0 : wr.drew.cell? ⟨pb, po + k * 2, none⟩ = some (.string (bs xn)) := z0
          have u1 : wr.drew.cell? ⟨pb, po + k * 2 + 1, none⟩ = some (.string (bs xv)) := z1
          have BD := bel_drew (Below.refl wr.heap.size wr)
          replace HOn := Lib.hid (HOn.out.keep BD)
          replace HBn := Lib.hid (HBn.out.trans (BD.mono HBn.out.size))
          clear HM T3 T1 BD z0 z1
          go_wp2_with fail
          refine wp_region_held_drew (S := fun _ => True) (by kernel_rfl) trivial (fun hHeld => ?_)
          refine take_on (i := 0) (d := some 13) (v := .int .i64 (k : Int)) rfl (by kernel_rfl) (by kernel_rfl) (by kernel_rfl) rfl (fun _ _ _ h => h) (by kernel_rfl) (by intro w hSw; clear hSw; go_simp) (by assumption) rfl rfl ?_
          (try simp only [Act.put, List.setIfInBounds_toArray, List.set_cons_zero, List.set_cons_succ])
          refine take_on (i := 1) (d := some 14) (v := .slice ao k co) rfl (by kernel_rfl) (by kernel_rfl) (by kernel_rfl) rfl (fun _ _ _ h => h) (by kernel_rfl) (by intro w hSw; clear hSw; go_simp) (by assumption) rfl rfl ?_
          (try simp only [Act.put, List.setIfInBounds_toArray, List.set_cons_zero, List.set_cons_succ])
          refine take_on (i := 2) (d := some 15) (v := .int .i64 (k : Int)) rfl (by kernel_rfl) (by kernel_rfl) (by kernel_rfl) rfl (fun _ _ _ h => h) (by kernel_rfl) (by intro w hSw; clear hSw; go_simp) (by assumption) rfl rfl ?_
          (try simp only [Act.put, List.setIfInBounds_toArray, List.set_cons_zero, List.set_cons_succ])
          refine take_on (i := 3) (d := some 16) (v := .bool false) rfl (by kernel_rfl) (by kernel_rfl) (by kernel_rfl) rfl (fun _ _ _ h => h) (by kernel_rfl) (by intro w hSw; clear hSw; go_simp) (by assumption) rfl rfl ?_
          (try simp only [Act.put, List.setIfInBounds_toArray, List.set_cons_zero, List.set_cons_succ])
          refine take_on (i := 4) (d := some 17) (v := .bool false) rfl (by kernel_rfl) (by kernel_rfl) (by kernel_rfl) rfl (fun _ _ _ h => h) (by kernel_rfl) (by intro w hSw; clear hSw; go_simp) (by assumption) rfl rfl ?_
          (try simp only [Act.put, List.setIfInBounds_toArray, List.set_cons_zero, List.set_cons_succ])
          refine take_off (i := 5) (d := some 18) rfl (by kernel_rfl) (by kernel_rfl) (by kernel_rfl) rfl (fun _ _ _ h => h) (by kernel_rfl) (by assumption) rfl rfl ?_
          (try simp only [Act.put, List.setIfInBounds_toArray, List.set_cons_zero, List.set_cons_succ])
          refine take_off (i := 6) (d := some 19) rfl (by kernel_rfl) (by kernel_rfl) (by kernel_rfl) rfl (fun _ _ _ h => h) (by kernel_rfl) (by assumption) rfl rfl ?_
          (try simp only [Act.put, List.setIfInBounds_toArray, List.set_cons_zero, List.set_cons_succ])
          refine take_off (i := 7) (d := some 20) rfl (by kernel_rfl) (by kernel_rfl) (by kernel_rfl) rfl (fun _ _ _ h => h) (by kernel_rfl) (by assumption) rfl rfl ?_
          (try simp only [Act.put, List.setIfInBounds_toArray, List.set_cons_zero, List.set_cons_succ])
          refine take_off (i := 8) (d := some 21) rfl (by kernel_rfl) (by kernel_rfl) (by kernel_rfl) rfl (fun _ _ _ h => h) (by kernel_rfl) (by assumption) rfl rfl ?_
          (try simp only [Act.put, List.setIfInBounds_toArray, List.set_cons_zero, List.set_cons_succ])
          refine take_off (i := 9) (d := some 22) rfl (by kernel_rfl) (by kernel_rfl) (by kernel_rfl) rfl (fun _ _ _ h => h) (by kernel_rfl) (by assumption) rfl rfl ?_
          (try simp only [Act.put, List.setIfInBounds_toArray, List.set_cons_zero, List.set_cons_succ])
          refine take_off (i := 10) (d := some 23) rfl (by kernel_rfl) (by kernel_rfl) (by kernel_rfl) rfl (fun _ _ _ h => h) (by kernel_rfl) (by assumption) rfl rfl ?_
          (try simp only [Act.put, List.setIfInBounds_toArray, List.set_cons_zero, List.set_cons_succ])
          refine take_off (i := 11) (d := some 24) rfl (by kernel_rfl) (by kernel_rfl) (by kernel_rfl) rfl (fun _ _ _ h => h) (by kernel_rfl) (by assumption) rfl rfl ?_
          (try simp only [Act.put, List.setIfInBounds_toArray, List.set_cons_zero, List.set_cons_succ])
          refine take_off (i := 12) (d := some 25) rfl (by kernel_rfl) (by kernel_rfl) (by kernel_rfl) rfl (fun _ _ _ h => h) (by kernel_rfl) (by assumption) rfl rfl ?_
          (try simp only [Act.put, List.setIfInBounds_toArray, List.set_cons_zero, List.set_cons_succ])
          refine take_off (i := 13) (d := some 26) rfl (by kernel_rfl) (by kernel_rfl) (by kernel_rfl) rfl (fun _ _ _ h => h) (by kernel_rfl) (by assumption) rfl rfl ?_
          (try simp only [Act.put, List.setIfInBounds_toArray, List.set_cons_zero, List.set_cons_succ])
          refine take_off (i := 14) (d := some 27) rfl (by kernel_rfl) (by kernel_rfl) (by kernel_rfl) rfl (fun _ _ _ h => h) (by kernel_rfl) (by assumption) rfl rfl ?_
          (try simp only [Act.put, List.setIfInBounds_toArray, List.set_cons_zero, List.set_cons_succ])
          refine take_off (i := 15) (d := some 28) rfl (by kernel_rfl) (by kernel_rfl) (by kernel_rfl) rfl (fun _ _ _ h => h) (by kernel_rfl) (by assumption) rfl rfl ?_
          (try simp only [Act.put, List.setIfInBounds_toArray, List.set_cons_zero, List.set_cons_succ])
          refine take_on (i := 16) (d := some 29) (v := .bool false) rfl (by kernel_rfl) (by kernel_rfl) (by kernel_rfl) rfl (fun _ _ _ h => h) (by kernel_rfl) (by intro w hSw; clear hSw; kernel_rfl) (by assumption) rfl rfl ?_
          (try simp only [Act.put, List.setIfInBounds_toArray, List.set_cons_zero, List.set_cons_succ])
          refine wpAnyH_done (by kernel_rfl) ?_ _
          generalize wr.drew = W2 at *
          have O1 := HOn.out
          have B0 := (Below.refl W2.heap.size W2).alloc (Nat.le_refl _) (.cells #[.string (bs xn), .string (bs xv)] 24)
          have HO2 := Lib.hid (O1.alloc (.cells #[.string (bs xn), .string (bs xv)] 24))
          have HT2 := Lib.hid (LbAt.one W2 (xn, xv))
          have HB2 := Lib.hid (HBn.out.trans (B0.mono HBn.out.size))
          clear B0 O1 HOn HBn
          go_wp2_with (at_builtin; refine wpList_append_lb rfl _ _ rfl wo.heap.size _ nx rfl HO2.out _ 1 1 [(xn, xv)] rfl HT2.out (by omega) HB2.out.size ?_)
          intro v3 W3 O3 g3
          have B3 := LRow.bel HB2.out HB2.out.size HO2.out (Nat.le_refl _) g3
          have HT4 := Lib.hid (HT3.out.keep B3)
          have HO4 := Lib.hid O3
          have HB4 := Lib.hid B3
          clear HO2 HB2 HT2 g3 O3 B3 HT3
          go_wp2_with (at_builtin; refine wpList_append_lb rfl _ _ rfl wo.heap.size _ (nx ++ [(xn, xv)]) rfl HO4.out _ _ _ _ rfl HT4.out (by rw [List.length_append]; simp only [List.length_singleton]; omega) HB4.out.size ?_)
          intro v5 W5 O5 g5
          have B5 := LRow.bel HB4.out HB4.out.size HO4.out (Nat.le_refl _) g5
          replace O5 : LRow W5 wo.heap.size v5 (insG (xn, xv) o) := by rw [← HN2.out, List.append_assoc]; exact O5
          have O6 := Lib.hid (O5.mono HBO.out.size)
          have B6 := Lib.hid (HBO.out.trans (B5.mono HBO.out.size))
          clear HO4 HB4 g5 HT4
          go_wp2
          go_roundw
          case rel => exact ⟨k + 1, insG (xn, xv) o, by go_num, by omega, by rw [insG_len, hol], O6, B6, HSN⟩
          case measure => simp [intOf]; omega
    · have hjz : ¬ (j : Int) < (n : Int) := by omega
      obtain rfl : j = n := by omega
      rw [List.take_of_length_le (by rw [HN.out]; exact Nat.le_refl _)] at HS
      go_wp2
      go_ret
      exact ⟨_, rfl, by rw [← HS.out]; exact HO.out, HBO.out⟩

end Go.Proofs.Ytpkbkemenfdadaa
