/-
  Contract of filter.Find.
-/
import Derived.Test.YtifjbbiphekmmaaGreatDoorFNear
import Derived.WalkMore
import Derived.Deep.LoopGhost
namespace Go.Proofs.YtifjbbiphekmmaaGreatDoor
open Go.RowKit
set_option linter.unusedVariables false
set_option linter.unusedSimpArgs false

theorem trms_at {T : List TmT} {k : Nat} (h : k < (trms T).length) : (trms T)[k] = (tmT T k).trm := by
  have h2 : k < T.length := by rw [trms_len] at h; exact h
  rw [tm_get h2]
  exact List.getElem_map _
def hitK (E : List Ent) (ts : List Trm) (k : Tx) : Bool := allT ts ((look E k).getD [])
theorem hitK_snoc {E : List Ent} {ts : List Trm} {K : List Tx} {j : Nat} (h : j < K.length) (e : hitK E ts (K.getD j []) = true) : (K.take (j + 1)).filter (hitK E ts) = (K.take j).filter (hitK E ts) ++ [K.getD j []] := by
  rw [List.take_succ_eq_append_getElem h, List.filter_append, ← getD_get h, List.filter_cons_of_pos e]; rfl
theorem hitK_not {E : List Ent} {ts : List Trm} {K : List Tx} {j : Nat} (h : j < K.length) (e : hitK E ts (K.getD j []) = false) : (K.take (j + 1)).filter (hitK E ts) = (K.take j).filter (hitK E ts) := by
  rw [List.take_succ_eq_append_getElem h, List.filter_append, ← getD_get h, List.filter_cons_of_neg (by rw [e]; simp)]; simp
theorem all_snoc {ts : List Trm} {l : List Lb} {i : Nat} (h : i < ts.length) (k : allT (ts.take i) l = true) (e : matchT ts[i] l = true) : allT (ts.take (i + 1)) l = true := by
  unfold allT at *
  rw [List.take_succ_eq_append_getElem h, List.all_append, k]; simp [e]
theorem all_not {ts : List Trm} {l : List Lb} {i : Nat} (h : i < ts.length) (e : matchT ts[i] l = false) : allT ts l = false := by
  unfold allT
  rw [List.all_eq_false]
  exact ⟨ts[i], List.getElem_mem h, by rw [e]; simp⟩

set_option maxRecDepth 100000 in
set_option maxHeartbeats 4000000 in
theorem find10_any (xv : Value) (E : List Ent) (a : Option Addr) (n c : Nat) (T : List TmT) (w : World) (h : IxV w xv E) (hE : E.length ≤ 1000) (ht : TmsAt w a n c T) (hn : ∀ e ∈ T, e.n ≤ 1000) :
    Calls Tryz.prog 28 #[xv, .slice a n c] w (SortP w (findT E (trms T))) := by
  have HNE := Lib.hid (near_any xv E a n c T w h hE ht hn)
  have HI := Lib.hid h
  have HT := Lib.hid ht
  have HSS := Lib.hid h.good.ss
  have hTl : T.length = n := ht.1.1
  have hn63 := ht.1.2.2.1
  have HTL := Lib.hid hTl
  clear h ht hn
  go_enter Tryz.func28, Tryz.ntmps28
  go_wp2
  go_step3
  go_wp2
  go_step3
  go_wp2_with fail
  refine HNE.out.mono ?_
  rintro e w1 ⟨K, hK, a1, c1, rfl, t1, b1⟩
  have HKL := Lib.hid (near_len hK)
  have T1 := Lib.hid t1
  have B1 := Lib.hid b1
  have HF := Lib.hid (near_filter HSS.out hK)
  have HI1 := Lib.hid (HI.out.keep b1)
  have HT1 := Lib.hid (show TmsAt w1 a n c T from HT.out.keep b1)
  clear hK t1 b1 HNE HI HT HSS
  obtain ⟨m, hm⟩ : ∃ m, K.length = m := ⟨_, rfl⟩
  have HM := Lib.hid hm
  rw [hm] at T1 HKL ⊢
  have hm1 : m ≤ 1000 := Nat.le_trans HKL.out hE
  clear hm HKL
  go_wp2_with fail
  go_loopg [5, 15] m (fun g v i wx => ∃ j : Nat, j + g = m ∧ i = .int .i64 (j : Int) ∧ Hid (TRow wx w1.heap.size v ((K.take j).filter (hitK E (trms T)))) ∧ Hid (Below w1.heap.size w1 wx))
  case atStart => exact ⟨0, by omega, rfl, Lib.hid (TRow.nil _ _), Lib.hid (Below.refl _ _)⟩
  case round =>
    obtain ⟨j, hjg, rfl, HO, HB⟩ := hrel
    cases gk with
    | zero =>
      obtain rfl : j = m := by omega
      have HN := Lib.hid (show K.take j = K from List.take_of_length_le (by rw [HM.out]; omega))
      rw [HN.out] at HO
      obtain ⟨a3, c3, rfl, t3⟩ := HO.out.shape
      have T3 := Lib.hid t3
      clear t3 HO
      have HF2 := Lib.hid (show K.filter (hitK E (trms T)) = findT E (trms T) from HF.out)
      rw [HF2.out] at T3 ⊢
      generalize hr : (findT E (trms T)).length = r at *
      have HRR := Lib.hid hr
      clear hr
      go_wp2_with fail
      rw [Exit.noGoto_ret]
      go_ret
      exact ⟨a3, c3, by rw [HRR.out]; rfl, by rw [HRR.out]; exact T3.out, B1.out.trans (HB.out.mono B1.out.size)⟩
    | succ g =>
      have hjn : j < m := by omega
      obtain ⟨p, o, rfl, hp, y0⟩ := (T1.out.keep HB.out).at_ j hjn
      have hlt : (j : Int) < (m : Int) := by omega
      have HN1 := Lib.hid (hitK_snoc (E := E) (ts := trms T) (K := K) (j := j) (by rw [HM.out]; exact hjn))
      have HN2 := Lib.hid (hitK_not (E := E) (ts := trms T) (K := K) (j := j) (by rw [HM.out]; exact hjn))
      have HLB := Lib.hid (labelsV wr xv E (K.getD j []) (HI1.out.keep HB.out))
      have HFL := Lib.hid (show ((K.take j).filter (hitK E (trms T))).length ≤ 1000 by
        have := List.length_filter_le (hitK E (trms T)) (K.take j)
        rw [List.length_take] at this
        omega)
      unfold hitK at HN1 HN2
      have HFL : Hid (((K.take j).filter (fun k => allT (trms T) ((look E k).getD []))).length ≤ 1000) := HFL
      have HO : Hid (TRow wr w1.heap.size u5 ((K.take j).filter (fun k => allT (trms T) ((look E k).getD [])))) := HO
      generalize (K.take j).filter (fun k => allT (trms T) ((look E k).getD [])) = R at *
      generalize (look E (K.getD j [])).getD [] = L at *
      generalize K.getD j [] = kx at *
      go_wp2_with fail
      refine HLB.out.mono ?_
      rintro e w2 ⟨la, lc, rfl, l2, b2⟩
      have L2 := Lib.hid l2
      have HO2 := Lib.hid (HO.out.keep b2)
      have HB2 := Lib.hid (HB.out.trans (b2.mono HB.out.size))
      have Y0 := Lib.hid ((b2.cell (p := ⟨p, o + j, none⟩) hp).trans y0)
      clear l2 b2 HO HB HLB y0
      generalize L.length = ll at *
      go_wp2_with fail
      go_loopg [10, 24] n (fun g2 _ i wx => ∃ k : Nat, k + g2 = n ∧ i = .int .i64 (k : Int) ∧ Hid (allT ((trms T).take k) L = true) ∧ Hid (Below w2.heap.size w2 wx))
      case atStart => exact ⟨0, by omega, rfl, Lib.hid (by simp [allT]), Lib.hid (Below.refl _ _)⟩
      case round =>
        obtain ⟨k, hkg, rfl, HA, HW⟩ := hrel
        cases gk with
        | zero =>
          obtain rfl : k = n := by omega
          have HAL := Lib.hid (show allT (trms T) L = true by have := HA.out; rwa [List.take_of_length_le (by rw [trms_len, HTL.out]; omega)] at this)
          have HRN := Lib.hid (HN1.out HAL.out)
          have HO4 := Lib.hid (HO2.out.keep HW.out)
          have HB4 := Lib.hid (HB2.out.trans (HW.out.mono HB2.out.size))
          clear HAL HA HO2 HB2 HN1 HN2
          have hs4 := HB4.out.size
          go_wp2_with (at_builtin; refine wpList_append_tx rfl _ _ rfl w1.heap.size _ R rfl (HO4.out.keep ((Below.refl _ _).alloc (Nat.le_refl _) (.cells #[.string (bs kx)] 9))) (some ⟨wr.heap.size, 0, none⟩) 1 1 [kx] rfl (TxAt.one wr kx) (by have := HFL.out; omega) (by rw [World.alloc]; simp; omega) ?_)
          intro v5 w5 o5 g5
          have HB5 := Lib.hid (TRow.bel ((HB4.out).alloc hs4 (.cells #[.string (bs kx)] 9)) (by rw [World.alloc]; simp; omega) (HO4.out.keep ((Below.refl _ _).alloc (Nat.le_refl _) (.cells #[.string (bs kx)] 9))) (Nat.le_refl _) g5)
          have HO5 := Lib.hid o5
          clear o5 g5 HO4 HB4
          go_wp2
          go_roundg g
          case measure => omega
          case rel => exact ⟨j + 1, by omega, by go_num, Lib.hid (by show TRow _ _ _ (List.filter (fun k => allT (trms T) ((look E k).getD [])) (List.take (j + 1) K)); rw [HRN.out]; exact HO5.out), HB5⟩
        | succ g2 =>
          have hkn : k < n := by omega
          have hk2 : (k : Int) < (n : Int) := by omega
          have HTK := Lib.hid ((HT1.out.keep (HB2.out.trans (HW.out.mono HB2.out.size))))
          obtain ⟨pb, po, rfl, hpb, y0, y1, y2⟩ := HTK.out.1.at_ k hkn
          have hkT : k < (trms T).length := by rw [trms_len, HTL.out]; exact hkn
          have HG := Lib.hid (trms_at hkT)
          have HX0 := Lib.hid (BoxT.new 24 wr (tmT T k))
          have BA := Lib.hid ((Below.refl wr.heap.size wr).alloc (Nat.le_refl _) (.cells #[.string (bs (tmT T k).name), .bool (tmT T k).neg, .slice (tmT T k).a (tmT T k).n (tmT T k).c] 24))
          have HM10 := Lib.hid (match10_any (tmT T k) la ll lc L _ ((HTK.out.ok hkn).keep BA.out) ((L2.out.keep HW.out).keep BA.out))
          have HA1 := Lib.hid (fun e : matchT (tmT T k).trm L = true => all_snoc (l := L) hkT HA.out (by rw [HG.out]; exact e))
          have HA2 := Lib.hid (fun e : matchT (tmT T k).trm L = false => HN2.out (all_not (ts := trms T) (l := L) hkT (by rw [HG.out]; exact e)))
          unfold tmV at HM10
          generalize matchT (tmT T k).trm L = r at *
          generalize bs (tmT T k).name = nb at *
          generalize (tmT T k).neg = ng at *
          generalize (tmT T k).a = ta at *
          generalize (tmT T k).n = tn at *
          generalize (tmT T k).c = tc at *
          cases r
          · have HR2 := Lib.hid (HA2.out rfl)
            clear HA1 HA2 HN1 HN2 HTK
            go_wp2_with fail
            refine HM10.out.mono ?_
            rintro e w6 ⟨rfl, b6⟩
            have HB6 := Lib.hid ((HW.out.trans ((BA.out.trans (b6.mono BA.out.size)).mono HW.out.size)))
            have HO7 := Lib.hid (HO2.out.keep HB6.out)
            have HB7 := Lib.hid (HB2.out.trans (HB6.out.mono HB2.out.size))
            clear b6
            go_wp2
            go_roundg g
            case measure => omega
            case rel => exact ⟨j + 1, by omega, by go_num, Lib.hid (by show TRow _ _ _ (List.filter (fun k => allT (trms T) ((look E k).getD [])) (List.take (j + 1) K)); rw [HR2.out]; exact HO7.out), HB7⟩
          · have HR2 := Lib.hid (HA1.out rfl)
            clear HA1 HA2 HN1 HN2 HTK
            go_wp2_with fail
            refine HM10.out.mono ?_
            rintro e w6 ⟨rfl, b6⟩
            have HB6 := Lib.hid ((HW.out.trans ((BA.out.trans (b6.mono BA.out.size)).mono HW.out.size)))
            clear b6
            go_wp2
            go_roundg g2
            case measure => omega
            case rel => exact ⟨k + 1, by omega, by go_num, HR2, HB6⟩
end Go.Proofs.YtifjbbiphekmmaaGreatDoor
