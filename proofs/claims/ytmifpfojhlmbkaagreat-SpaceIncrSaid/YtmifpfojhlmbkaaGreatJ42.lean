/-
  Contracts.
-/
import Derived.Test.YtmifpfojhlmbkaaGreatJ41
import Derived.Deep.RegionHeld3
import Derived.StillTailTactics
import Derived.IntWalk
namespace Go.Proofs.YtmifpfojhlmbkaaGreat
set_option maxRecDepth 100000
set_option maxHeartbeats 16000000
open Go.RowKit
set_option linter.unusedVariables false
set_option linter.unusedSimpArgs false
theorem BoxU.five {w : World} {B : Nat} {r : Ru} (h : BoxU 32 w B r) : w.cell? ⟨B, 0, none⟩ = some (.string (bs r.src)) ∧ w.cell? ⟨B, 1, none⟩ = some (.string (bs r.dst)) ∧ w.cell? ⟨B, 2, none⟩ = some (.int .i64 r.kind) ∧ w.cell? ⟨B, 3, none⟩ = some (.int .i64 r.size) ∧ w.cell? ⟨B, 4, none⟩ = some (.int .i64 r.align) := ⟨h.x0, h.x1, h.x2, h.x3, h.x4⟩
theorem closed_x (s d : Tx) (k n a : Int) (mx : Int) (pa : Option Addr) (pn pc : Nat) (ts : List Int) (w : World) (h : Nums w pa pn pc ts) (hn : pn ≤ 1000000) (h64 : ∀ t ∈ ts, 0 ≤ t ∧ t < 1099511627776) :
    Calls Tryz.prog 216 #[.agg #[.string (bs s), .string (bs d), .int .i64 k, .int .i64 n, .int .i64 a], .int .i64 mx, .slice pa pn pc] w (NumsP (startsL ⟨s, d, k, n, a⟩ mx ts) w) := closed_any ⟨s, d, k, n, a⟩ mx pa pn pc ts w h hn h64
theorem getD_mem12 {l : List Int} {i : Nat} (h : i < l.length) : l.getD i 0 ∈ l := by
  rw [List.getD_eq_getElem?_getD, List.getElem?_eq_getElem h]; exact List.getElem_mem h
theorem getD_up12 {l : List Int} (h : l.Pairwise (· ≤ ·)) {i j : Nat} (hij : i ≤ j) (hj : j < l.length) : l.getD i 0 ≤ l.getD j 0 := by
  rw [List.getD_eq_getElem?_getD, List.getD_eq_getElem?_getD, List.getElem?_eq_getElem hj, List.getElem?_eq_getElem (by omega)]
  by_cases e : i = j
  · subst e; exact Int.le_refl _
  · exact List.pairwise_iff_getElem.1 h i j (by omega) hj (by omega)
theorem each_any (r : Ru) (sb d kb db : Nat) (ssz dsz : Int) (ss ds : Ser) (pa : Option Addr) (pn pc : Nat) (ts : List Int) (w : World) (hr : rightB r.size r.align)
    (hss : SerAt w sb ssz ss) (hSs : Std ss) (hs1 : 128 ≤ ssz) (hsn : ss.z.length ≤ 40000) (hds : SerAt w d dsz ds) (hSd : Std ds) (hd1 : 128 ≤ dsz) (hd2 : dsz ≤ 4096) (hdn : ds.z.length ≤ 40000) (hne : sb ≠ d)
    (h1 : w.cell? ⟨kb, 0, none⟩ = some (.int .i64 r.kind)) (h2 : w.cell? ⟨db, 0, none⟩ = some (.pointer (some ⟨d, 0, none⟩))) (hkd : kb ≠ d) (hdd : db ≠ d)
    (h : Nums w pa pn pc ts) (hn : pn ≤ 40000) (ht : ∀ t ∈ ts, 0 ≤ t ∧ t < 1099511627776) (hup : ts.Pairwise (· ≤ ·)) :
    Calls Tryz.prog 145 #[ruV r, .pointer (some ⟨sb, 0, none⟩), .slice pa pn pc, .func (.func 218) #[] #[.pointer (some ⟨kb, 0, none⟩), .pointer (some ⟨db, 0, none⟩)]] w (LayP d dsz (remS r ss ds ts) w) := by
  have eg : ∀ args w, (callFunc 218 args).run Tryz.prog w = .ok (.enter 218 args) w := enters_of Tryz.func218 (by kernel_rfl) rfl
  have hkl : kb < w.heap.size := World.block_lt_of_cell? w ⟨kb, 0, none⟩ h1
  have hdl : db < w.heap.size := World.block_lt_of_cell? w ⟨db, 0, none⟩ h2
  have HL := Lib.hid h.len
  have B1 := (Below.refl w.heap.size w).alloc (Nat.le_refl _) (.cells #[.string (bs r.src), .string (bs r.dst), .int .i64 r.kind, .int .i64 r.size, .int .i64 r.align] 32)
  have X1 := BoxU.new 32 w r
  have N1 := Lib.hid (h.keep B1)
  have HSS := Lib.hid (hss.keepB B1)
  have HDS := Lib.hid (hds.keepB B1)
  have K1 := Lib.hid ((B1.cell (p := ⟨kb, 0, none⟩) hkl).trans h1)
  have K2 := Lib.hid ((B1.cell (p := ⟨db, 0, none⟩) hdl).trans h2)
  have HB1 := Lib.hid B1
  have HX := Lib.hid X1
  have HSb : Hid (sb < w.heap.size) := Lib.hid hss.lt
  have HDb : Hid (d < w.heap.size) := Lib.hid hds.lt
  have HR := Lib.hid hr
  have HSs := Lib.hid hSs
  have HSd := Lib.hid hSd
  have HNE := Lib.hid hne
  have HST := Lib.hid (show Stl r (startsL r ss.mx ts) from ⟨starts_up hr hup (fun t h => by have := ht t h; omega), starts_in hr ht⟩)
  have HLEN := Lib.hid (show (startsL r ss.mx ts).length ≤ 40000 from by have := starts_len r ss.mx ts; rw [HL.out] at this; omega)
  have HREM : Hid (remS r ss ds ts = (startsL r ss.mx ts).foldl (makeS r ss) ds) := Lib.hid rfl
  have HMX := Lib.hid (fun W (k : SerAt W sb ssz ss) => smax_ok sb ssz ss W k (by omega))
  have HCL := Lib.hid (fun W (k : Nums W pa pn pc ts) => closed_x r.src r.dst r.kind r.size r.align ss.mx pa pn pc ts W k (by omega) ht)
  unfold ruV
  obtain ⟨y0, y1, y2, y3, y4⟩ := HX.out.five
  clear h B1 X1 h1 h2 hss hds hr hSs hSd hne ht hup
  have HDsn := Lib.hid hdn
  have HSsn := Lib.hid hsn
  clear hdn hsn
  rw [HREM.out]
  generalize startsL r ss.mx ts = st at *
  generalize ss.mx = mx at *
  clear HREM HL
  go_enter Tryz.func145, Tryz.ntmps145
  go_wp2_with fail
  generalize hBB : w.heap.size = B0 at *
  generalize hW1 : w.alloc (.cells #[.string (bs r.src), .string (bs r.dst), .int .i64 r.kind, .int .i64 r.size, .int .i64 r.align] 32) = W1 at *
  have hB0 : B0 < W1.heap.size := HX.out.lt
  have HBB := Lib.hid hBB
  clear hW1 hBB
  go_region_held3 (fun w' => w'.cell? ⟨B0, 0, none⟩ = some (.string (bs r.src)) ∧ w'.cell? ⟨B0, 1, none⟩ = some (.string (bs r.dst)) ∧ w'.cell? ⟨B0, 2, none⟩ = some (.int .i64 r.kind) ∧ w'.cell? ⟨B0, 3, none⟩ = some (.int .i64 r.size) ∧ w'.cell? ⟨B0, 4, none⟩ = some (.int .i64 r.align))
    (first
      | exact HE2.out
      | go_keep
      | fail)
    (first
      | (go_at_call 42
         (with_reducible refine (HMX.out _ HSS.out).mono ?_)
         rintro e W' ⟨rfl, rfl⟩)
      | (go_at_call 42
         (with_reducible refine (HMX.out _ (HSS.out.keepB (Below.refl _ W1).drew)).mono ?_)
         rintro e W' ⟨rfl, rfl⟩)
      | (go_at_call 216
         (with_reducible refine (HCL.out _ (N1.out.keep (Below.refl _ W1).drew)).mono ?_)
         rintro e W2 ⟨vs, rfl, r2, b2⟩
         have HE2 := Lib.hid (HX.out.keep (show Below W1.heap.size W1 W2 from (Below.refl _ W1).drew.trans b2)).five)
      | fail)
  have B2 := (Below.refl _ W1).drew.trans b2
  have HX2 := Lib.hid (HX.out.keep B2)
  have HSS2 := Lib.hid (HSS.out.keepB B2)
  have HDS2 := Lib.hid (HDS.out.keepB B2)
  have K12 := Lib.hid ((B2.cell (p := ⟨kb, 0, none⟩) (show kb < W1.heap.size by omega)).trans K1.out)
  have K22 := Lib.hid ((B2.cell (p := ⟨db, 0, none⟩) (show db < W1.heap.size by omega)).trans K2.out)
  have HB2 := Lib.hid (show Below B0 w W2 from HB1.out.trans (B2.mono (Nat.le_of_lt hB0)))
  have hB2 : B0 < W2.heap.size := Nat.lt_of_lt_of_le hB0 B2.size
  obtain ⟨sa, sc, rfl, hNu⟩ := Nums.of r2 (fun b hb => by have := HST.out.in_ b hb; unfold in64; omega)
  have HNu := Lib.hid hNu
  clear r2 b2 HE2 HSS HDS K1 K2 HB1 HX B2 hNu HMX HCL N1 y0 y1 y2 y3 y4 hB0
  obtain ⟨nn, hnn⟩ : ∃ nn, st.length = nn := ⟨_, rfl⟩
  have HNN := Lib.hid hnn
  rw [hnn] at HNu HLEN
  rw [hnn]
  clear hnn
  by_cases h0 : nn = 0
  · have e0 : st = [] := List.eq_nil_of_length_eq_zero (by rw [HNN.out]; exact h0)
    have HF := Lib.hid (show LayP d dsz (st.foldl (makeS r ss) ds) w (.returned (.tuple #[])) W2 from ⟨rfl, by rw [e0]; exact HDS2.out, gb_below (show Below w.heap.size w W2 from by rw [HBB.out]; exact HB2.out)⟩)
    have hz : (((nn : Int)) == 0) = true := by simp; omega
    clear h0 e0
    go_wp2
    go_end0
    exact HF.out
  · have hpos : (0 : Int) < (nn : Int) := by have := h0; omega
    have hz : (((nn : Int)) == 0) = false := by simp; omega
    have h0' := Lib.hid h0
    clear h0
    obtain ⟨kk, hkk⟩ : ∃ kk, nn - 1 = kk := ⟨_, rfl⟩
    have hk1 : (nn : Int) - 1 = (kk : Int) := by have := h0'.out; omega
    have hk2 : (kk : Int) < (nn : Int) := by have := h0'.out; omega
    have hk3 : (0 : Int) ≤ (kk : Int) := by omega
    have hl40 := HLEN.out
    have HK5 := Lib.hid (show IntKind.i64.wrap (kk : Int) = (kk : Int) from IntWalk.i64_in _ ⟨by omega, by omega⟩)
    have HK4 := Lib.hid (show wrap64 (kk : Int) = (kk : Int) from by unfold wrap64; omega)
    obtain ⟨pb, po, rfl, hpb, x0⟩ := HNu.out.at_ 0 (by have := h0'.out; omega)
    obtain ⟨pb', po', e', hpb', xk⟩ := HNu.out.at_ kk (by have := h0'.out; omega)
    have e1 : pb' = pb ∧ po' = po := by simp only [Option.some.injEq, Addr.mk.injEq, and_true] at e'; exact ⟨e'.1.symm, e'.2.symm⟩
    rw [e1.1, e1.2] at xk
    clear e' e1 hpb'
    rw [Nat.add_zero] at x0
    have hin0 := HST.out.in_ (st.getD 0 0) (getD_mem12 (by rw [HNN.out]; have := h0'.out; omega))
    have hink := HST.out.in_ (st.getD kk 0) (getD_mem12 (by rw [HNN.out]; have := h0'.out; omega))
    have hen := endB_in HR.out ⟨hink.1, hink.2.1⟩
    have HE := Lib.hid (fun W => end_any (st.getD kk 0) r.size r.align W)
    have HMID := Lib.hid (show ∀ j, j < nn → st.getD 0 0 ≤ st.getD j 0 ∧ endB (st.getD j 0) r.size r.align ≤ endB (st.getD kk 0) r.size r.align from fun j hj => by
      have hjn : j < st.length := by rw [HNN.out]; exact hj
      have hj := HST.out.in_ (st.getD j 0) (getD_mem12 hjn)
      refine ⟨getD_up12 HST.out.up (Nat.zero_le _) hjn, endB_mono HR.out ⟨hj.1, hj.2.1⟩ ⟨hink.1, hink.2.1⟩ hj.2.2 hink.2.2 (getD_up12 HST.out.up (by omega) (by rw [HNN.out]; omega))⟩)
    have hel := hen.2
    have hel0 : 0 ≤ endB (st.getD kk 0) r.size r.align := by omega
    clear hin0 hink hen
    generalize st.getD 0 0 = b0 at *
    generalize st.getD kk 0 = bk at *
    generalize endB bk r.size r.align = el at *
    have HW2 := Lib.hid (show IntKind.i64.wrap (el - 1) = el - 1 from IntWalk.i64_in _ ⟨by omega, by omega⟩)
    have HW1 := Lib.hid (show wrap64 (el - 1) = el - 1 from by unfold wrap64; omega)
    have y3 := HX2.out.x3
    have y4 := HX2.out.x4
    have HRG := Lib.hid (fun W (k : SerAt W sb ssz ss) => range_ser sb ssz ss b0 (el - 1) W k hs1 HSs.out.rise (by have := HSsn.out; omega))
    have hk5 := HK5.out
    have hw2 := HW2.out
    have hposN : 0 < nn := by have := h0'.out; omega
    go_wp2_with fail
    go_region_held3 (fun w' => w'.cell? ⟨pb, po, none⟩ = some (.int .i64 b0) ∧ w'.cell? ⟨pb, po + kk, none⟩ = some (.int .i64 bk) ∧ w'.cell? ⟨B0, 3, none⟩ = some (.int .i64 r.size) ∧ w'.cell? ⟨B0, 4, none⟩ = some (.int .i64 r.align))
      (first
        | exact HE3.out
        | go_keep
        | fail)
      (first
        | (go_at_call 56
           (with_reducible refine (HE.out _).mono ?_)
           rintro e W' ⟨rfl, rfl⟩)
        | (go_at_call 22
           (with_reducible refine (HRG.out _ (HSS2.out.keepB (Below.refl _ W2).drew)).mono ?_)
           rintro e W3 ⟨la, lc, rfl, l3, b3⟩
           have HE3 := Lib.hid (show W3.cell? ⟨pb, po, none⟩ = some (.int .i64 b0) ∧ W3.cell? ⟨pb, po + kk, none⟩ = some (.int .i64 bk) ∧ W3.cell? ⟨B0, 3, none⟩ = some (.int .i64 r.size) ∧ W3.cell? ⟨B0, 4, none⟩ = some (.int .i64 r.align) from by
             have bb := (Below.refl _ W2).drew.trans b3
             exact ⟨(bb.cell (p := ⟨pb, po, none⟩) hpb).trans x0, (bb.cell (p := ⟨pb, po + kk, none⟩) hpb).trans xk, (HX2.out.keep bb).x3, (HX2.out.keep bb).x4⟩))
        | fail)
    have B3 := (Below.refl _ W2).drew.trans b3
    have HX3 := Lib.hid (HX2.out.keep B3)
    have HDS3 := Lib.hid (HDS2.out.keepB B3)
    have K13 := Lib.hid ((B3.cell (p := ⟨kb, 0, none⟩) (show kb < W2.heap.size by omega)).trans K12.out)
    have K23 := Lib.hid ((B3.cell (p := ⟨db, 0, none⟩) (show db < W2.heap.size by omega)).trans K22.out)
    have HB3 := Lib.hid (show Below B0 w W3 from HB2.out.trans (B3.mono (Nat.le_of_lt hB2)))
    have HNu3 := Lib.hid (HNu.out.keep B3)
    have HL3 := Lib.hid l3
    clear b3 l3 HE3 hk5 hw2 hposN x0 xk y3 y4 HK4 HK5 HW1 HW2 hk1 hk2 hk3 hz hpos HX2 HSS2 HDS2 K12 K22 HB2 HNu HRG HE B3 hB2
    have HLr := Lib.hid (show Rising (ss.z.filter (inB b0 (el - 1))) from (rising_pw _).2 (List.Pairwise.filter _ ((rising_pw _).1 HSs.out.rise)))
    have HLt := Lib.hid (show ∀ x ∈ ss.z.filter (inB b0 (el - 1)), 0 ≤ x.1 ∧ x.1 < 1099511627776 from fun x hx => HSs.out.time x (List.mem_filter.1 hx).1)
    have HLl := Lib.hid (show (ss.z.filter (inB b0 (el - 1))).length ≤ 40000 from Nat.le_trans (List.length_filter_le ..) HSsn.out)
    have HVI := Lib.hid (vBk_in (r := r) HSs.out.all (by have := HSsn.out; omega))
    have HBK := Lib.hid (fun b (h1 : b0 ≤ b) (h2 : endB b r.size r.align ≤ el) => mid_bk (r := r) (ss := ss) h1 h2)
    generalize ss.z.filter (inB b0 (el - 1)) = L at *
    have hBd : B0 ≠ d := by have := HDb.out; omega
    go_wp2_with fail
    go_loopw [39] (fun i wr => ∃ j : Nat, j ≤ nn ∧ i = .int .i64 (j : Int) ∧ Hid (SerAt wr d dsz ((st.take j).foldl (makeS r ss) ds)) ∧ Hid (W3.grownBy wr (some d))) (fun i _ => nn - (intOf i).toNat)
    case atStart => exact ⟨0, Nat.zero_le _, rfl, Lib.hid HDS3.out, Lib.hid (gb_refl _ _)⟩
    case round =>
      obtain ⟨j, hj, rfl, SD, G⟩ := hrel
      by_cases hjn : j < nn
      · have T : Ts (fun i => i = d) W3 wr := .ser HDS3.out G.out
        have X : BoxU 32 wr B0 r := (T.block HX3.out.lt hBd).trans HX3.out
        have y3 := X.x3
        have y4 := X.x4
        have k1 := T.tu.cell K13.out hkd
        have k2 := T.tu.cell K23.out hdd
        obtain ⟨qb, qo, e0, hqb, x0⟩ := (HNu3.out.ts T).at_ j hjn
        have e1 : qb = pb ∧ qo = po := by simp only [Option.some.injEq, Addr.mk.injEq, and_true] at e0; exact ⟨e0.1.symm, e0.2.symm⟩
        rw [e1.1, e1.2] at x0
        have LL := Lib.hid (T.samp HL3.out)
        clear X T e0 e1 hqb
        have hjs : j < st.length := by rw [HNN.out]; exact hjn
        have hin := HST.out.in_ (st.getD j 0) (getD_mem12 hjs)
        have hen := endB_in HR.out ⟨hin.1, hin.2.1⟩
        have hmid := HMID.out j hjn
        have HFO := Lib.hid (show (st.take (j + 1)).foldl (makeS r ss) ds = makeS r ss ((st.take j).foldl (makeS r ss) ds) (st.getD j 0) from by
          rw [List.take_succ_eq_append_getElem hjs, List.foldl_append, List.getD_eq_getElem?_getD, List.getElem?_eq_getElem hjs]; rfl)
        obtain ⟨q1, _, _, _, q5⟩ := rem_spec (r := r) (s := ss) HVI.out (st.take j) ds (fun b hb => by have := HST.out.in_ b (List.mem_of_mem_take hb); exact ⟨this.1, this.2.1⟩) HSd.out
        have q6 : ((st.take j).foldl (makeS r ss) ds).z.length ≤ 80000 := by
          rw [List.length_take] at q5
          have := HDsn.out
          have := HLEN.out
          omega
        have HQ1 := Lib.hid q1
        have HQ6 := Lib.hid q6
        clear q1 q5 q6
        have HE := Lib.hid (fun W => end_any (st.getD j 0) r.size r.align W)
        have HWI := Lib.hid (fun W (k : Lst W la L.length lc L) => hWithin la L.length lc L (st.getD j 0) (endB (st.getD j 0) r.size r.align) W k (by have := HLl.out; omega) HLr.out HLt.out hin.1 (by omega) (by omega))
        have HBKj := Lib.hid (HBK.out _ hmid.1 hmid.2)
        rw [HBKj.out] at HWI
        have HMK : Hid (makeS r ss ((st.take j).foldl (makeS r ss) ds) (st.getD j 0) = layS ((st.take j).foldl (makeS r ss) ds) (st.getD j 0) (isK r.kind (valsOf (inBk r ss (st.getD j 0)))) (valK r.kind (valsOf (inBk r ss (st.getD j 0))))) := Lib.hid rfl
        rw [HMK.out] at HFO
        have HBL := Lib.hid (show (inBk r ss (st.getD j 0)).length ≤ 40000 from Nat.le_trans (List.length_filter_le ..) HSsn.out)
        have hj0 : (0 : Int) ≤ (j : Int) := by omega
        have hj1 : (j : Int) < (nn : Int) := by omega
        clear HMK hin hen hmid hjs HBKj
        generalize inBk r ss (st.getD j 0) = bk' at *
        generalize (st.take j).foldl (makeS r ss) ds = dj at *
        generalize st.getD j 0 = b at *
        generalize endB b r.size r.align = eb at *
        go_wp2_with fail
        refine (HE.out _).mono ?_
        rintro e W' ⟨rfl, rfl⟩
        go_wp2_with fail
        refine (HWI.out _ LL.out).mono ?_
        rintro e W4 ⟨wa, wc, rfl, l4, b4⟩
        have SD4 := Lib.hid (SD.out.keepB b4)
        have L4 := Lib.hid l4
        have G4 := Lib.hid (gb_trans G.out (gb_below (row := some d) b4))
        have k14 := Lib.hid ((b4.cell (p := ⟨kb, 0, none⟩) (World.block_lt_of_cell? _ ⟨kb, 0, none⟩ k1)).trans k1)
        have k24 := Lib.hid ((b4.cell (p := ⟨db, 0, none⟩) (World.block_lt_of_cell? _ ⟨db, 0, none⟩ k2)).trans k2)
        clear l4 b4 k1 k2 y3 y4 x0 SD G LL HWI HE
        go_wp2_with fail
        refine (lay_any kb db r.kind d dsz dj b wa bk'.length wc bk' W4 k14.out k24.out SD4.out HQ1.out hd1 hd2 HQ6.out L4.out (by have := HBL.out; omega)).mono ?_
        rintro e W5 ⟨rfl, s5, g5⟩
        have S5 := Lib.hid s5
        have G5 := Lib.hid (gb_trans G4.out g5)
        clear s5 g5
        go_wp2
        go_roundw
        case rel => exact ⟨j + 1, by omega, by go_num, by rw [HFO.out]; exact S5, G5⟩
        case measure => simp [intOf]; omega
      · obtain rfl : nn = j := by omega
        have HT := Lib.hid (show st.take nn = st from List.take_of_length_le (by rw [HNN.out]; exact Nat.le_refl _))
        rw [HT.out] at SD
        have HF := Lib.hid (show LayP d dsz (st.foldl (makeS r ss) ds) w (.returned (.tuple #[])) wr from ⟨rfl, SD.out, gb_trans (gb_below (show Below w.heap.size w W3 from by rw [HBB.out]; exact HB3.out)) G.out⟩)
        go_wp2
        go_end0
        exact HF.out
end Go.Proofs.YtmifpfojhlmbkaaGreat
namespace Go.Proofs.YtmifpfojhlmbkaaGreat
set_option maxRecDepth 100000
set_option maxHeartbeats 16000000
open Go.RowKit
set_option linter.unusedVariables false
set_option linter.unusedSimpArgs false
def ClosP (k : Int) (d : Nat) (w : World) (e : Ending) (w' : World) : Prop :=
  e = .returned (.func (.func 218) #[] #[.pointer (some ⟨w.heap.size, 0, none⟩), .pointer (some ⟨w.heap.size + 1, 0, none⟩)]) ∧
  w'.cell? ⟨w.heap.size, 0, none⟩ = some (.int .i64 k) ∧ w'.cell? ⟨w.heap.size + 1, 0, none⟩ = some (.pointer (some ⟨d, 0, none⟩)) ∧ Below w.heap.size w w'
theorem laying_any (k : Int) (d : Nat) (w : World) : Calls Tryz.prog 146 #[.int .i64 k, .pointer (some ⟨d, 0, none⟩)] w (ClosP k d w) := by
  have s1 : (w.alloc (.cells #[.int .i64 k] 3)).heap.size = w.heap.size + 1 := by simp
  have B1 := (Below.refl w.heap.size w).alloc (Nat.le_refl _) (.cells #[.int .i64 k] 3)
  have B2 := B1.alloc B1.size (.cells #[.pointer (some ⟨d, 0, none⟩)] 47)
  have c1 : ((w.alloc (.cells #[.int .i64 k] 3)).alloc (.cells #[.pointer (some ⟨d, 0, none⟩)] 47)).cell? ⟨w.heap.size, 0, none⟩ = some (.int .i64 k) := by
    rw [cell_of (heap_old (heap_new w _))]; rfl
  have c2 : ((w.alloc (.cells #[.int .i64 k] 3)).alloc (.cells #[.pointer (some ⟨d, 0, none⟩)] 47)).cell? ⟨w.heap.size + 1, 0, none⟩ = some (.pointer (some ⟨d, 0, none⟩)) := by
    rw [← s1, cell_of (heap_new _ _)]; rfl
  have C1 := Lib.hid c1
  have C2 := Lib.hid c2
  have HB := Lib.hid B2
  clear s1 B1 B2 c1 c2
  go_enter Tryz.func146, Tryz.ntmps146
  go_wp2
  go_ret
  exact ⟨rfl, C1.out, C2.out, HB.out⟩
theorem remK_snoc (S : Tx → Ser) (rs : List Ru) (r : Ru) (ts : List Int) : remK S (rs ++ [r]) ts = upd (remK S rs ts) r.dst (remS r (remK S rs ts r.src) (remK S rs ts r.dst) ts) := by
  unfold remK; rw [List.foldl_append]; rfl
theorem remK_no {ts : List Int} {y : Tx} : ∀ (rs : List Ru) (S : Tx → Ser), (∀ r ∈ rs, r.dst ≠ y) → remK S rs ts y = S y
  | [], S, _ => rfl
  | r :: rs, S, h => by
    show remK (upd S r.dst _) rs ts y = S y
    rw [remK_no rs _ (fun q hq => h q (List.mem_cons_of_mem _ hq)), upd_n]
    exact fun e => h r (by simp) e.symm
structure Rset (P : Spc) (rs : List Ru) : Prop where
  right : ∀ r ∈ rs, rightU r ∧ P.has r.src ∧ P.has r.dst
  apart : ∀ r ∈ rs, ∀ q ∈ rs, r.src ≠ q.dst
  one : rs.Pairwise (fun a b => a.dst ≠ b.dst)
theorem remK_yes {ts : List Int} : ∀ (rs : List Ru) (S : Tx → Ser), (∀ r ∈ rs, ∀ q ∈ rs, r.src ≠ q.dst) → rs.Pairwise (fun a b => a.dst ≠ b.dst) → ∀ r ∈ rs, remK S rs ts r.dst = remS r (S r.src) (S r.dst) ts
  | [], S, _, _, r, hr => by cases hr
  | q :: rs, S, ha, hp, r, hr => by
    obtain ⟨p1, p2⟩ := List.pairwise_cons.1 hp
    show remK (upd S q.dst _) rs ts r.dst = _
    rcases List.mem_cons.1 hr with e | e
    · subst e
      rw [remK_no rs _ (fun u hu e => p1 u hu e.symm), upd_k]
    · rw [remK_yes rs _ (fun a h1 b h2 => ha a (List.mem_cons_of_mem _ h1) b (List.mem_cons_of_mem _ h2)) p2 r e, upd_n _ _ (ha r hr q (by simp)), upd_n _ _ (fun k => p1 r e k.symm)]
theorem each_x (r : Ru) (sb d kb db : Nat) (ssz dsz : Int) (ss ds : Ser) (pa : Option Addr) (pn pc : Nat) (ts : List Int) (w : World) (hr : rightB r.size r.align)
    (hss : SerAt w sb ssz ss) (hSs : Std ss) (hs1 : 128 ≤ ssz) (hsn : ss.z.length ≤ 40000) (hds : SerAt w d dsz ds) (hSd : Std ds) (hd1 : 128 ≤ dsz) (hd2 : dsz ≤ 4096) (hdn : ds.z.length ≤ 40000) (hne : sb ≠ d)
    (h1 : w.cell? ⟨kb, 0, none⟩ = some (.int .i64 r.kind)) (h2 : w.cell? ⟨db, 0, none⟩ = some (.pointer (some ⟨d, 0, none⟩))) (hkd : kb ≠ d) (hdd : db ≠ d)
    (h : Nums w pa pn pc ts) (hn : pn ≤ 40000) (ht : ∀ t ∈ ts, 0 ≤ t ∧ t < 1099511627776) (hup : ts.Pairwise (· ≤ ·)) :
    Calls Tryz.prog 145 #[.agg #[.string (bs r.src), .string (bs r.dst), .int .i64 r.kind, .int .i64 r.size, .int .i64 r.align], .pointer (some ⟨sb, 0, none⟩), .slice pa pn pc, .func (.func 218) #[] #[.pointer (some ⟨kb, 0, none⟩), .pointer (some ⟨db, 0, none⟩)]] w (LayP d dsz (remS r ss ds ts) w) :=
  each_any r sb d kb db ssz dsz ss ds pa pn pc ts w hr hss hSs hs1 hsn hds hSd hd1 hd2 hdn hne h1 h2 hkd hdd h hn ht hup
theorem remStd12 {r : Ru} {s d : Ser} {ts : List Int} (hr : rightB r.size r.align) (hs : Std s) (hd : Std d) (hn : s.z.length < 1000000) (ht : ∀ t ∈ ts, 0 ≤ t ∧ t < 1099511627776) : Std (remS r s d ts) := by
  have hbs := starts_in (mx := s.mx) hr ht
  exact (rem_spec (vBk_in (r := r) hs.all (by omega)) (startsL r s.mx ts) d (fun b hb => ⟨(hbs b hb).1, (hbs b hb).2.1⟩) hd).1
theorem SpCell.keepB {w w' : World} {x : Nat} {m : Mem} (h : SpCell w x m) (b : Below w.heap.size w w') : SpCell w' x m := (b.block x (heap_lt h)).trans h
theorem remake_any (w : World) (x : Nat) (m : Mem) (P : Spc) (a : Option Addr) (n c : Nat) (rs : List Ru) (pa : Option Addr) (pn pc : Nat) (ts : List Int) (h : SpAt w x m P)
    (hr : RuAt w a n c rs) (hro : ∀ ad, a = some ad → ¬ Own m P.E ad.block) (hs : Rset P rs) (hz : ∀ k, P.has k → (P.S k).z.length ≤ 10000) (hp : Nums w pa pn pc ts) (hpn : pn ≤ 10000) (ht : ∀ t ∈ ts, 0 ≤ t ∧ t < 1099511627776) (hup : ts.Pairwise (· ≤ ·)) (hn : n ≤ 1000000) :
    Calls Tryz.prog 78 #[.pointer (some ⟨x, 0, none⟩), .slice a n c, .slice pa pn pc] w fun e w' => e = .returned (.tuple #[]) ∧ SpTurn w w' x m m P.E { P with S := remK P.S rs ts } := by
  have hf : ∀ (W : World) (n : Int) (b : Nat), (Instr.field 105 (.agg #[.int .i64 n, .pointer (some ⟨b, 0, none⟩)]) 1).run Tryz.prog W = .ok (.pointer (some ⟨b, 0, none⟩)) W := fun W n b => by kernel_rfl
  have HL := Lib.hid hr.1
  have H := Lib.hid h
  have HR := Lib.hid hr
  have HRO := Lib.hid hro
  have HS := Lib.hid hs
  have HZ := Lib.hid hz
  have HP := Lib.hid hp
  have HT := Lib.hid ht
  have HUP := Lib.hid hup
  clear h hr hro hs hz hp ht hup
  go_enter Tryz.func78, Tryz.ntmps78
  go_wp2_with fail
  go_loopw [10] (fun i wr => ∃ j : Nat, j ≤ n ∧ i = .int .i64 (j : Int) ∧ Hid (SpTurn w wr x m m P.E { P with S := remK P.S (rs.take j) ts })) (fun i _ => n - (intOf i).toNat)
  case atStart => exact ⟨0, Nat.zero_le _, rfl, Lib.hid (.refl H.out)⟩
  case round =>
    obtain ⟨j, hj, rfl, T⟩ := hrel
    by_cases hjn : j < n
    · have R1 := HR.out.tu T.out.ts.tu HRO.out
      obtain ⟨pb, po, rfl, hpb, z0, z1, z2, z3, z4⟩ := R1.at_ j hjn
      clear R1
      have hjl : j < rs.length := by rw [HL.out]; exact hjn
      have hmem := uA_mem hjl
      obtain ⟨hrr, hsrc, hdst⟩ := HS.out.right _ hmem
      have hne := HS.out.apart _ hmem _ hmem
      have htk : rs.take (j + 1) = rs.take j ++ [uA rs j] := by rw [List.take_succ_eq_append_getElem hjl, uA_get hjl]
      have HRK := Lib.hid (show remK P.S (rs.take (j + 1)) ts = upd (remK P.S (rs.take j) ts) (uA rs j).dst (remS (uA rs j) (remK P.S (rs.take j) ts (uA rs j).src) (remK P.S (rs.take j) ts (uA rs j).dst) ts) from by rw [htk, remK_snoc])
      have hSs : remK P.S (rs.take j) ts (uA rs j).src = P.S (uA rs j).src := remK_no _ _ (fun q hq => fun e => HS.out.apart _ hmem q (List.mem_of_mem_take hq) e.symm)
      have hSd : remK P.S (rs.take j) ts (uA rs j).dst = P.S (uA rs j).dst := remK_no _ _ (fun q hq => by
        obtain ⟨i, hi, e⟩ := List.getElem_of_mem hq
        rw [List.length_take] at hi
        rw [List.getElem_take] at e
        have := List.pairwise_iff_getElem.1 HS.out.one i j (by omega) hjl (by omega)
        rw [uA_get hjl, ← e]; exact this)
      have hzs := HZ.out _ hsrc
      have hzd := HZ.out _ hdst
      rw [← hSs] at hzs
      rw [← hSd] at hzd
      clear hSs hSd htk hmem hjl
      have HA := Lib.hid T.out.sp
      generalize hSj : remK P.S (rs.take j) ts = Sj at *
      clear hSj
      generalize uA rs j = r at *
      have hj0 : (0 : Int) ≤ (j : Int) := by omega
      have hj1 : (j : Int) < (n : Int) := by omega
      have B1 := (Below.refl wr.heap.size wr).alloc (Nat.le_refl _) (.cells #[.string (bs r.src), .string (bs r.dst), .int .i64 r.kind, .int .i64 r.size, .int .i64 r.align] 32)
      have X1 := Lib.hid (BoxU.new 32 wr r)
      have HB1 := Lib.hid B1
      clear B1
      go_wp2_with fail
      have A1 := Lib.hid (HA.out.keep HB1.out)
      have HPw := Lib.hid ((HP.out.ts T.out.ts).keep HB1.out)
      have hBs : m.B r.src < wr.heap.size := (HA.out.ser _ hsrc).lt
      have hBd : m.B r.dst < wr.heap.size := (HA.out.ser _ hdst).lt
      have hBx : x ≠ m.B r.dst := fun e => by
        obtain ⟨cs, hc⟩ := (HA.out.ser _ hdst).cellS
        have := HA.out.cell
        unfold SpCell at this
        rw [e, hc] at this
        cases this
      have hBne : m.B r.src ≠ m.B r.dst := fun e => hne (HA.out.inj _ _ hsrc hdst e)
      clear z0 z1 z2 z3 z4 hpb
      generalize hBB : wr.heap.size = B0 at *
      generalize hW1 : wr.alloc (.cells #[.string (bs r.src), .string (bs r.dst), .int .i64 r.kind, .int .i64 r.size, .int .i64 r.align] 32) = W1 at *
      have HBB := Lib.hid hBB
      have hB0 : B0 < W1.heap.size := X1.out.lt
      clear hW1 hBB
      obtain ⟨L, l1, l2⟩ := A1.out.map
      have hlS : ∀ W, W.heap[m.mb]? = W1.heap[m.mb]? → (Instr.lookup 92 (.map (some m.mb)) (.string (bs r.src)) false).run Tryz.prog W = .ok (.agg #[.int .i64 (P.Z r.src), .pointer (some ⟨m.B r.src, 0, none⟩)]) W := fun W e => by
        have h := (l1.same (w' := W) e).lookup Tryz.underlying92 Tryz.underlying9 (Tryz.zeroValue105 _) r.src false
        rw [h, l2, if_pos (show r.src ∈ keysL P.E from hsrc)]; rfl
      have hlD : ∀ W, W.heap[m.mb]? = W1.heap[m.mb]? → (Instr.lookup 92 (.map (some m.mb)) (.string (bs r.dst)) false).run Tryz.prog W = .ok (.agg #[.int .i64 (P.Z r.dst), .pointer (some ⟨m.B r.dst, 0, none⟩)]) W := fun W e => by
        have h := (l1.same (w' := W) e).lookup Tryz.underlying92 Tryz.underlying9 (Tryz.zeroValue105 _) r.dst false
        rw [h, l2, if_pos (show r.dst ∈ keysL P.E from hdst)]; rfl
      have hmb : m.mb < W1.heap.size := l1.lt
      have HLS := Lib.hid hlS
      have HLD := Lib.hid hlD
      have lS1 := hlS W1.drew rfl
      have lD1 := hlD W1.drew rfl
      clear l1 l2 hlS hlD
      obtain ⟨y0, y1, y2, y3, y4⟩ := X1.out.five
      have c0 := A1.out.cell.c0
      have hsz := A1.out.ok.siz r.src hsrc
      have hdz := A1.out.ok.siz r.dst hdst
      have HSS := Lib.hid (A1.out.ok.std r.src hsrc)
      have HSD := Lib.hid (A1.out.ok.std r.dst hdst)
      have HAS := Lib.hid (A1.out.ser r.src hsrc)
      have HAD := Lib.hid (A1.out.ser r.dst hdst)
      replace HSS : Hid (Std (Sj r.src)) := HSS
      replace HSD : Hid (Std (Sj r.dst)) := HSD
      replace HAS : Hid (SerAt W1 (m.B r.src) (P.Z r.src) (Sj r.src)) := HAS
      replace HAD : Hid (SerAt W1 (m.B r.dst) (P.Z r.dst) (Sj r.dst)) := HAD
      replace hsz : 128 ≤ P.Z r.src ∧ P.Z r.src ≤ 4096 := hsz
      replace hdz : 128 ≤ P.Z r.dst ∧ P.Z r.dst ≤ 4096 := hdz
      have HRB := Lib.hid hrr.2.2.2.2
      have HLAY := Lib.hid (fun W => laying_any r.kind (m.B r.dst) W)
      go_region_held3 (fun w' => w'.cell? ⟨B0, 0, none⟩ = some (.string (bs r.src)) ∧ w'.cell? ⟨B0, 1, none⟩ = some (.string (bs r.dst)) ∧ w'.cell? ⟨B0, 2, none⟩ = some (.int .i64 r.kind) ∧ w'.cell? ⟨B0, 3, none⟩ = some (.int .i64 r.size) ∧ w'.cell? ⟨B0, 4, none⟩ = some (.int .i64 r.align) ∧ w'.cell? ⟨x, 0, none⟩ = some (mp m.mb))
        (first
          | exact HE3.out
          | exact HE2.out
          | go_keep
          | fail)
        (first
          | (go_at_call 146
             (with_reducible refine (HLAY.out _).mono ?_)
             rintro e W2 ⟨rfl, q1, q2, b2⟩
             have B2 := Lib.hid (show Below W1.heap.size W1 W2 from (Below.refl _ W1).drew.trans b2)
             have HE2 := Lib.hid (show W2.cell? ⟨B0, 0, none⟩ = some (.string (bs r.src)) ∧ W2.cell? ⟨B0, 1, none⟩ = some (.string (bs r.dst)) ∧ W2.cell? ⟨B0, 2, none⟩ = some (.int .i64 r.kind) ∧ W2.cell? ⟨B0, 3, none⟩ = some (.int .i64 r.size) ∧ W2.cell? ⟨B0, 4, none⟩ = some (.int .i64 r.align) ∧ W2.cell? ⟨x, 0, none⟩ = some (mp m.mb) from by
               obtain ⟨a0, a1, a2, a3, a4⟩ := (X1.out.keep B2.out).five
               exact ⟨a0, a1, a2, a3, a4, (A1.out.cell.keepB B2.out).c0⟩)
             have lS2 := HLS.out W2 (B2.out.block _ hmb)
             have lD2 := HLD.out W2 (B2.out.block _ hmb)
             have HEACH := Lib.hid (each_x r (m.B r.src) (m.B r.dst) W1.heap.size (W1.heap.size + 1) (P.Z r.src) (P.Z r.dst) (Sj r.src) (Sj r.dst) pa pn pc ts W2 HRB.out (HAS.out.keepB B2.out) HSS.out hsz.1 (by omega) (HAD.out.keepB B2.out) HSD.out hdz.1 hdz.2 (by omega) hBne q1 q2
               (show W1.heap.size ≠ m.B r.dst by omega) (show W1.heap.size + 1 ≠ m.B r.dst by omega) (HPw.out.keep B2.out) (by omega) HT.out HUP.out))
          | (go_at_call 145
             (with_reducible refine HEACH.out.mono ?_)
             rintro e W3 ⟨rfl, s3, g3⟩
             have HE3 := Lib.hid (show W3.cell? ⟨B0, 0, none⟩ = some (.string (bs r.src)) ∧ W3.cell? ⟨B0, 1, none⟩ = some (.string (bs r.dst)) ∧ W3.cell? ⟨B0, 2, none⟩ = some (.int .i64 r.kind) ∧ W3.cell? ⟨B0, 3, none⟩ = some (.int .i64 r.size) ∧ W3.cell? ⟨B0, 4, none⟩ = some (.int .i64 r.align) ∧ W3.cell? ⟨x, 0, none⟩ = some (mp m.mb) from by
               have t3 : Tu (fun i => i = m.B r.dst) W2 W3 := .gb g3 rfl
               obtain ⟨a0, a1, a2, a3, a4, a5⟩ := HE2.out
               have h0 : B0 ≠ m.B r.dst := by omega
               exact ⟨t3.cell a0 h0, t3.cell a1 h0, t3.cell a2 h0, t3.cell a3 h0, t3.cell a4 h0, t3.cell a5 hBx⟩))
          | fail)
      all_goals
        have A2 := A1.out.keep B2.out
        have SR := remStd12 (r := r) (s := Sj r.src) (d := Sj r.dst) (ts := ts) HRB.out HSS.out HSD.out (by omega) HT.out
        have T3 := A2.serTurn hdst g3 s3 SR
        have T4 := Lib.hid (T.out.trans (T3.pre (show Below wr.heap.size wr W2 from by rw [HBB.out]; exact HB1.out.trans (B2.out.mono (Nat.le_of_lt hB0)))))
        have HQ : Hid (({ ({ P with S := Sj } : Spc) with S := upd ({ P with S := Sj } : Spc).S r.dst (remS r (Sj r.src) (Sj r.dst) ts) } : Spc) = { P with S := remK P.S (rs.take (j + 1)) ts }) := Lib.hid (by rw [HRK.out])
        rw [HQ.out] at T4
        clear A2 SR T3 HQ HE3 HE2 HEACH B2 s3 g3 q1 q2 b2 lS1 lD1 lS2 lD2 y0 y1 y2 y3 y4 c0 T HA
        go_wp2
        go_roundw
        case rel => exact ⟨j + 1, by omega, by go_num, T4⟩
        case measure => simp [intOf]; omega
    · obtain rfl : n = j := by omega
      rw [show rs.take n = rs from List.take_of_length_le (by rw [HL.out]; exact Nat.le_refl _)] at T
      go_wp2
      go_end0
      exact ⟨rfl, T.out⟩
end Go.Proofs.YtmifpfojhlmbkaaGreat
