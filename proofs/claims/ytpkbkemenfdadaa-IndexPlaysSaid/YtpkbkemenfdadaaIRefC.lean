/-
  Contracts of the document's index that turn it: Drop, Set.
-/
import Derived.Test.YtpkbkemenfdadaaIRefB
namespace Go.Proofs.Ytpkbkemenfdadaa
open Go.RowKit
set_option linter.unusedVariables false
set_option linter.unusedSimpArgs false

theorem rx_set {w : World} {r : Nat} {s : Value} (h : RxCell w r s) (v : Value) : RxCell (w.setCell ⟨r, 0, none⟩ v) r v := by
  have hl := heap_lt h
  unfold RxCell at *
  simp [World.setCell, Array.getElem?_modify, h]
theorem EnAt.far {r : Nat} {w w' : World} {a1 : Option Addr} {n1 c1 : Nat} (t : Far r w w') (hr : RxCell w r (.slice a1 n1 c1)) {a : Option Addr} {n c : Nat} {T : List EnT} (h : EnAt w a n c T) : EnAt w' a n c T := by
  obtain ⟨h1, h2, h3, h5⟩ := h
  refine ⟨h1, h2, h3, ?_⟩
  rcases h5 with h0 | ⟨b, off, rfl, hlt, hc⟩
  · exact .inl h0
  · by_cases h0 : n = 0
    · exact .inl h0
    · have hb : b ≠ r := fun e => by
        have h6 := (hc 0 (by omega)).1
        subst e
        rw [cell_of hr] at h6
        cases hk : off + 0 * 2 with
        | zero => rw [hk] at h6; simp at h6
        | succ k => rw [hk] at h6; simp at h6
      have hw : ∀ o, w'.cell? ⟨b, o, none⟩ = w.cell? ⟨b, o, none⟩ := fun o => World.cell?_of_block (w := w) (t.block b hlt hb)
      exact .inr ⟨b, off, rfl, Nat.lt_of_lt_of_le hlt t.size, fun i hi => ⟨(hw _).trans (hc i hi).1, (hw _).trans (hc i hi).2⟩⟩
/-- What a call that turns the document's index leaves. -/
def RefP (w : World) (r : Nat) (v : Value) (E : List Ent) (e : Ending) (w' : World) : Prop := e = .returned v ∧ ∃ a n c T, RefAt w' r a n c T ∧ ents T = E ∧ Far r w w'
theorem ref_done {w0 w : World} {r : Nat} {a1 : Option Addr} {n1 c1 : Nat} (hb : Below w0.heap.size w0 w) (hr : RxCell w r (.slice a1 n1 c1)) {a : Option Addr} {n c : Nat} {T : List EnT} (hT : EnAt w a n c T) (hk : ∀ e ∈ T, LbAt w e.a e.n e.c e.l) :
    RefAt (w.setCell ⟨r, 0, none⟩ (.slice a n c)) r a n c T ∧ Far r w0 (w.setCell ⟨r, 0, none⟩ (.slice a n c)) := by
  have f : Far r w (w.setCell ⟨r, 0, none⟩ (.slice a n c)) := .grown (gb_set (gb_refl _ _) _ _)
  exact ⟨⟨rx_set hr _, hT.far f hr, fun e he => (hk e he).far f hr⟩, (Far.of hb).trans f⟩

def filt (key : Tx) (T : List EnT) : List EnT := T.filter fun e => decide (e.key ≠ key)
theorem ents_filt (key : Tx) (T : List EnT) : ents (filt key T) = dels (ents T) key := by
  unfold ents filt dels
  rw [List.filter_map]; rfl
theorem filt_snoc (key : Tx) {T : List EnT} {j : Nat} (h : j < T.length) : filt key (T.take (j + 1)) = filt key (T.take j) ++ (if T[j].key = key then [] else [T[j]]) := by
  rw [List.take_succ_eq_append_getElem h]
  unfold filt
  rw [List.filter_append]
  congr 1
  by_cases hz : T[j].key = key
  · rw [List.filter_cons_of_neg (by simpa using hz), if_pos hz]; rfl
  · rw [List.filter_cons_of_pos (by simpa using hz), if_neg hz]; rfl
theorem filt_less (key : Tx) (T : List EnT) : (filt key T).length < T.length ↔ key ∈ keysL (ents T) := by
  constructor
  · intro h
    by_cases hk : key ∈ keysL (ents T)
    · exact hk
    · have e := congrArg List.length (dels_absent hk)
      rw [← ents_filt, ents_len, ents_len] at e
      omega
  · intro h
    obtain ⟨i, hi, e⟩ := key_ents.1 h
    unfold filt
    rw [← Nat.not_le]
    intro hle
    have h2 := List.length_filter_le (fun e : EnT => decide (e.key ≠ key)) T
    have h3 := (List.length_filter_eq_length_iff).1 (Nat.le_antisymm h2 hle) T[i] (List.getElem_mem hi)
    simp at h3
    exact h3 e

set_option maxRecDepth 100000 in
set_option maxHeartbeats 4000000 in
theorem rdrop_any (w : World) (r : Nat) (a : Option Addr) (n c : Nat) (T : List EnT) (key : Tx) (h : RefAt w r a n c T) (hn : n ≤ 1000) :
    Calls Try.prog 15 #[.pointer (some ⟨r, 0, none⟩), .string (bs key)] w (RefP w r (.bool (decide (key ∈ keysL (ents T)))) (dels (ents T) key)) := by
  have HR := Lib.hid h
  have HL := Lib.hid h.row.1
  clear h
  go_enter Try.func15, Try.ntmps15
  go_wp2_with fail
  go_loopw [5, 6] (fun vo vi wr => ∃ (j : Nat) (o : List EnT), vi = .int .i64 (j : Int) ∧ j ≤ n ∧ o.length ≤ j ∧ Hid (ERow wr w.heap.size vo o) ∧ Hid (Below w.heap.size w wr) ∧ Hid (o = filt key (T.take j))) (fun _ vi _ => n - (intOf vi).toNat)
  case atStart => exact ⟨0, [], rfl, Nat.zero_le _, Nat.le_refl _, Lib.hid (ERow.nil _ _), Lib.hid (Below.refl _ _), Lib.hid rfl⟩
  case round =>
    obtain ⟨j, o, rfl, hj, hol, HO, HB, HM⟩ := hrel
    have R1 := HR.out.keep HB.out
    have c0 := R1.cell.c0
    by_cases hjn : j < n
    · have hjz : (j : Int) < (n : Int) := by omega
      have hj0 : (0 : Int) ≤ (j : Int) := by omega
      obtain ⟨p, q, hT, rfl, hp, x0, x1, hl⟩ := R1.at_ j hjn
      have HSN := Lib.hid (filt_snoc key hT)
      have t1 := eq_bs T[j].key key
      by_cases he : T[j].key = key
      · have HM2 := Lib.hid (show o = filt key (T.take (j + 1)) from by rw [HSN.out, if_pos he, List.append_nil, HM.out])
        have tb : ((bs T[j].key).toList != (bs key).toList) = false := by rw [bne_eq_false_iff_eq, he]
        rw [decide_eq_true he] at t1
        clear hl R1 HM HSN he
        generalize T[j] = e at *
        obtain ⟨y, ya, yn, yc, l⟩ := e
        have x0 : wr.cell? ⟨p, q + j * 2, none⟩ = some (.string (bs y)) := x0
        have t1 : ((bs y).toList == (bs key).toList) = true := t1
        generalize bs y = sy at *
        go_wp2
        go_roundw
        case rel => exact ⟨j + 1, o, by go_num, by omega, by omega, HO, HB, HM2⟩
        case measure => simp [intOf]; omega
      · have HM2 := Lib.hid (show o ++ [T[j]] = filt key (T.take (j + 1)) from by rw [HSN.out, if_neg he, HM.out])
        rw [decide_eq_false he] at t1
        clear hl R1 HM HSN he
        generalize T[j] = e at *
        obtain ⟨y, ya, yn, yc, l⟩ := e
        have x0 : wr.cell? ⟨p, q + j * 2, none⟩ = some (.string (bs y)) := x0
        have x1 : wr.cell? ⟨p, q + j * 2 + 1, none⟩ = some (.slice ya yn yc) := x1
        have t1 : ((bs y).toList == (bs key).toList) = false := t1
        have B0 := (Below.refl wr.heap.size wr).alloc (Nat.le_refl _) (.cells #[.string (bs y), .slice ya yn yc] 68)
        have HO2 := Lib.hid (HO.out.alloc (.cells #[.string (bs y), .slice ya yn yc] 68))
        have HT2 := Lib.hid (EnAt.one wr ⟨y, ya, yn, yc, l⟩)
        have HB2 := Lib.hid (HB.out.trans (B0.mono HB.out.size))
        clear B0 HO HB
        go_wp2_with (at_builtin; refine wpList_append_en rfl _ _ rfl w.heap.size _ o rfl HO2.out _ 1 1 [⟨y, ya, yn, yc, l⟩] rfl HT2.out (by omega) HB2.out.size ?_)
        intro v3 W3 O3 g3
        have B3 := ERow.bel HB2.out HB2.out.size HO2.out (Nat.le_refl _) g3
        clear HO2 HB2 HT2 g3
        go_wp2
        go_roundw
        case rel => exact ⟨j + 1, _, by go_num, by omega, by rw [List.length_append, List.length_singleton]; omega, Lib.hid O3, Lib.hid B3, HM2⟩
        case measure => simp [intOf]; omega
    · have hjz : ¬ (j : Int) < (n : Int) := by omega
      obtain rfl : j = n := by omega
      rw [List.take_of_length_le (by rw [HL.out]; exact Nat.le_refl _)] at HM
      have HC := Lib.hid R1.cell
      have f0 := frozen_of (o := 0) R1.cell
      obtain ⟨ao, co, rfl, to⟩ := HO.out.shape
      have HTO := Lib.hid to
      have HLS := Lib.hid (filt_less key T)
      have HOK := Lib.hid (show ∀ e ∈ o, LbAt wr e.a e.n e.c e.l from fun e he => R1.ok e (by rw [HM.out] at he; exact (List.mem_filter.1 he).1))
      have HE := Lib.hid (show ents o = dels (ents T) key from by rw [HM.out, ents_filt])
      rw [← HM.out, HL.out] at HLS
      obtain ⟨no, hno⟩ : ∃ no, o.length = no := ⟨_, rfl⟩
      have HNO := Lib.hid hno
      rw [hno] at HLS to
      rw [hno]
      have HTO := Lib.hid to
      clear hno R1 to HO HM
      by_cases hk : no < j
      · have HK := Lib.hid (HLS.out.1 hk)
        have hkz : (no : Int) < (j : Int) := by omega
        go_wp2
        go_ret
        obtain ⟨d1, d2⟩ := ref_done HB.out HC.out HTO.out HOK.out
        exact ⟨ret_bool (decide_eq_true HK.out).symm, ao, no, co, o, d1, HE.out, d2⟩
      · have HK := Lib.hid (show key ∉ keysL (ents T) from fun h => hk (HLS.out.2 h))
        have hkz : ¬ (no : Int) < (j : Int) := by omega
        go_wp2
        go_ret
        obtain ⟨d1, d2⟩ := ref_done HB.out HC.out HTO.out HOK.out
        exact ⟨ret_bool (decide_eq_false HK.out).symm, ao, no, co, o, d1, HE.out, d2⟩

/-- The row of labels stands in another block than the row of entries. -/
theorem LRow.aside {w w' : World} {base b2 : Nat} {v v2 : Value} {l : List Lb} {T : List EnT} (h : LRow w base v l) (ho : ERow w b2 v2 T) (g : w.grownBy w' v2.ownBlock) : LRow w' base v l := by
  refine ⟨h.1, ?_⟩
  rcases h.2 with e | ⟨b, cap, cur, rfl, hbg, hb, r⟩
  · exact .inl e
  · refine .inr ⟨b, cap, cur, rfl, hbg, ?_, r⟩
    rw [g.block b (heap_lt hb) (fun e => ?_)]
    · exact hb
    · rcases ho.2 with ⟨rfl, _⟩ | ⟨g2, cap2, cur2, rfl, _, hg2, _⟩
      · cases e
      · have e2 : g2 = b := by simpa [Value.ownBlock, eq_comm] using e
        subst e2
        rw [hb] at hg2
        simp at hg2
theorem insG_ltE {x y : Ent} {L : List Ent} (h : y.1 < x.1) : insG x (y :: L) = y :: insG x L := if_pos h
theorem insG_geE {x y : Ent} {L : List Ent} (h : ¬ y.1 < x.1) : insG x (y :: L) = x :: y :: L := if_neg h
theorem ents_drop {T : List EnT} {j : Nat} (h : j < T.length) : ents (T.drop j) = (T[j].key, T[j].l) :: ents (T.drop (j + 1)) := by
  rw [List.drop_eq_getElem_cons h]; rfl
theorem ents_app (A B : List EnT) : ents (A ++ B) = ents A ++ ents B := by unfold ents; rw [List.map_append]

set_option maxRecDepth 100000 in
set_option maxHeartbeats 8000000 in
theorem rset_any (w : World) (r : Nat) (a : Option Addr) (n c : Nat) (T : List EnT) (key : Tx) (a1 : Option Addr) (n1 c1 : Nat) (l : List Lb) (h : RefAt w r a n c T) (hl : LbAt w a1 n1 c1 l) (hn : n ≤ 1000) (hk : ∀ k ∈ keysL (ents T), k.length ≤ 64) :
    Calls Try.prog 13 #[.pointer (some ⟨r, 0, none⟩), .string (bs key), .slice a1 n1 c1] w (RefP w r (.int .i64 (if okE key l then 0 else 1)) (stepE key l (ents T))) := by
  have HR := Lib.hid h
  have HL := Lib.hid hl
  have HKL := Lib.hid hk
  have HK := Lib.hid (rkey_any key w)
  have HRG := Lib.hid (rright9_any a1 n1 c1 l w hl)
  clear h hl hk
  by_cases k1 : keyB key
  · rw [decide_eq_true k1] at HK
    by_cases k2 : rightL l
    · rw [decide_eq_true k2] at HRG
      have HOK := Lib.hid (show okE key l from ⟨k1, k2⟩)
      rw [if_pos HOK.out]
      clear k1 k2
      go_enter Try.func13, Try.ntmps13
      go_wp2_with fail
      refine HK.out.mono ?_
      rintro e w' ⟨rfl, rfl⟩
      go_wp2_with fail
      refine HRG.out.mono ?_
      rintro e w0 ⟨rfl, hd⟩
      have b0 := hd.bel
      have HR0 := Lib.hid (HR.out.keep b0)
      have B0 := Lib.hid b0
      clear hd b0 HK HRG
      go_wp2_with fail
      refine (rdrop_any w0 r a n c T key HR0.out hn).mono ?_
      rintro e w1 ⟨rfl, a', n', c', T1, r1, e1, f1⟩
      have hrr := HR0.out.cell
      have FW := Lib.hid ((Far.of (r := r) B0.out).trans f1)
      have LL := Lib.hid ((HL.out.keep B0.out).far f1 hrr)
      have HR1 := Lib.hid r1
      have hn' : n' ≤ 1000 := by
        rw [← r1.row.1, ← ents_len, e1]
        have h1 := dels_len (ents T) key
        rw [ents_len, HR0.out.row.1] at h1
        omega
      have HKL1 := Lib.hid (show ∀ e ∈ T1, e.key.length ≤ 64 from fun e he => HKL.out _ (by
        have h1 : e.key ∈ keysL (ents T1) := List.mem_map.2 ⟨e.ent, List.mem_map.2 ⟨e, he, rfl⟩, rfl⟩
        rw [e1] at h1
        exact (keys_dels.1 h1).1))
      have HL1 := Lib.hid r1.row.1
      have HE1 := Lib.hid e1
      have BW := Lib.hid (Below.refl w1.heap.size w1)
      have H0 := Lib.hid (show ents (T1.take 0) ++ insG (key, srt l) (ents (T1.drop 0)) = insG (key, srt l) (ents T1) from rfl)
      clear r1 e1 f1 hrr HR HL B0 HR0 HKL
      go_wp2_with fail
      go_loopw [7, 8] (fun vo vi wr => ∃ (j : Nat), vi = .int .i64 (j : Int) ∧ j ≤ n' ∧ Hid (ERow wr w1.heap.size vo (T1.take j)) ∧ Hid (Below w1.heap.size w1 wr) ∧ Hid (ents (T1.take j) ++ insG (key, srt l) (ents (T1.drop j)) = insG (key, srt l) (ents T1))) (fun _ vi _ => n' - (intOf vi).toNat)
      case atStart => exact ⟨0, rfl, Nat.zero_le _, Lib.hid (ERow.nil _ _), BW, H0⟩
      case round =>
        clear H0
        obtain ⟨j, rfl, hj, HOn, HBn, HM⟩ := hrel
        have R2 := HR1.out.keep HBn.out
        have c0 := R2.cell.c0
        obtain ⟨a3, hs3, t3⟩ := HR1.out.row.from_ j hj
        have HT3 := Lib.hid t3
        clear t3
        by_cases hjn : j < n'
        · have hjz : (j : Int) < (n' : Int) := by omega
          have hj0 : (0 : Int) ≤ (j : Int) := by omega
          obtain ⟨p, q0, hT, rfl, hp, x0, x1, hlj⟩ := R2.at_ j hjn
          have HBL := Lib.hid (fun W => rbelow_any T1[j].key key W (by have := HKL1.out _ (List.getElem_mem hT); omega) (by have := HOK.out.1.2; omega))
          by_cases he : T1[j].key < key
          · have HM2 := Lib.hid (show ents (T1.take (j + 1)) ++ insG (key, srt l) (ents (T1.drop (j + 1))) = insG (key, srt l) (ents T1) from by
              rw [← HM.out, ents_drop hT, insG_ltE he, List.take_succ_eq_append_getElem hT, ents_app, List.append_assoc]; rfl)
            have HTS := Lib.hid (show T1.take j ++ [T1[j]] = T1.take (j + 1) from (List.take_succ_eq_append_getElem hT).symm)
            rw [decide_eq_true he] at HBL
            clear he HM hlj R2 hs3 HT3
            generalize T1[j] = en at *
            obtain ⟨y, ya, yn, yc, yl⟩ := en
            have x0 : wr.cell? ⟨p, q0 + j * 2, none⟩ = some (.string (bs y)) := x0
            have x1 : wr.cell? ⟨p, q0 + j * 2 + 1, none⟩ = some (.slice ya yn yc) := x1
            go_wp2_with fail
            refine (HBL.out _).mono ?_
            rintro e W2 ⟨rfl, hd⟩
            have b2 := hd.bel
            have u0 : W2.cell? ⟨p, q0 + j * 2, none⟩ = some (.string (bs y)) := (b2.cell (p := ⟨p, q0 + j * 2, none⟩) hp).trans x0
            have u1 : W2.cell? ⟨p, q0 + j * 2 + 1, none⟩ = some (.slice ya yn yc) := (b2.cell (p := ⟨p, q0 + j * 2 + 1, none⟩) hp).trans x1
            have O1 := HOn.out.keep b2
            have B1 := HBn.out.trans (b2.mono HBn.out.size)
            have c2 := (HR1.out.keep B1).cell.c0
            have B0 := (Below.refl W2.heap.size W2).alloc (Nat.le_refl _) (.cells #[.string (bs y), .slice ya yn yc] 68)
            have HO2 := Lib.hid (O1.alloc (.cells #[.string (bs y), .slice ya yn yc] 68))
            have HT2 := Lib.hid (EnAt.one W2 ⟨y, ya, yn, yc, yl⟩)
            have HB2 := Lib.hid (B1.trans (B0.mono B1.size))
            clear B0 O1 B1 b2 hd HOn HBn HBL x0 x1 c0
            go_wp2_with (at_builtin; refine wpList_append_en rfl _ _ rfl w1.heap.size _ (T1.take j) rfl HO2.out _ 1 1 [⟨y, ya, yn, yc, yl⟩] rfl HT2.out (by rw [List.length_take]; omega) HB2.out.size ?_)
            intro v3 W3 O3 g3
            have B3 := ERow.bel HB2.out HB2.out.size HO2.out (Nat.le_refl _) g3
            rw [HTS.out] at O3
            clear HO2 HB2 HT2 g3
            go_wp2
            go_roundw
            case rel => exact ⟨j + 1, by go_num, by omega, Lib.hid O3, Lib.hid B3, HM2⟩
            case measure => simp [intOf]; omega
          · have HEN := Lib.hid (show ∀ sa q cs, ents ((T1.take j ++ [EnT.mk key sa q cs (srt l)]) ++ T1.drop j) = stepE key l (ents T) from fun sa q cs => by
              rw [ents_app, ents_app, stepE, if_pos HOK.out, setE, ← HE1.out, ← HM.out, ents_drop hT, insG_geE he, List.append_assoc]; rfl)
            rw [decide_eq_false he] at HBL
            clear he HM hlj R2 x1
            generalize T1[j] = en at *
            obtain ⟨y, ya, yn, yc, yl⟩ := en
            have x0 : wr.cell? ⟨p, q0 + j * 2, none⟩ = some (.string (bs y)) := x0
            go_wp2_with fail
            refine (HBL.out _).mono ?_
            rintro e w3 ⟨rfl, hd⟩
            have b2 := hd.bel
            replace HOn := Lib.hid (HOn.out.keep b2)
            replace HBn := Lib.hid (HBn.out.trans (b2.mono HBn.out.size))
            clear b2 hd HBL x0 c0
            go_wp2_with fail
            have b0 := HBn.out.size
            have C := rsorted_any a1 n1 c1 l w3 (LL.out.keep (BW.out.trans (HBn.out.mono BW.out.size))) (fun x hx => ((HOK.out.2.2.1 x hx).1).2) (by have := HOK.out.2.1; have := LL.out.1; omega)
            refine C.mono ?_
            clear C
            rintro e W2 ⟨vs, rfl, rl, b2⟩
            obtain ⟨sa, cs, rfl, ts⟩ := rl.shape
            clear ts
            obtain ⟨q, hq⟩ : ∃ q, (srt l).length = q := ⟨_, rfl⟩
            rw [hq] at rl
            rw [hq]
            have HQ := Lib.hid hq
            have O1 := HOn.out.keep b2
            have B1 := HBn.out.trans (b2.mono HBn.out.size)
            have B0 := (Below.refl W2.heap.size W2).alloc (Nat.le_refl _) (.cells #[.string (bs key), .slice sa q cs] 68)
            have HO2 := Lib.hid (O1.alloc (.cells #[.string (bs key), .slice sa q cs] 68))
            have HT2 := Lib.hid (EnAt.one W2 ⟨key, sa, q, cs, srt l⟩)
            have HB2 := Lib.hid (B1.trans (B0.mono B1.size))
            have RL2 := Lib.hid (rl.keep B0)
            clear B0 O1 HOn HBn B1 b2 rl hq
            go_wp2_with (at_builtin; refine wpList_append_en rfl _ _ rfl w1.heap.size _ (T1.take j) rfl HO2.out _ 1 1 [EnT.mk key sa q cs (srt l)] rfl HT2.out (by rw [List.length_take]; omega) HB2.out.size ?_)
            intro v3 W3 O3 g3
            have B3 := ERow.bel HB2.out HB2.out.size HO2.out (Nat.le_refl _) g3
            have c3 := (HR1.out.keep B3).cell.c0
            have HT4 := Lib.hid (HT3.out.keep B3)
            have HO4 := Lib.hid O3
            have HB4 := Lib.hid B3
            have RL4 := Lib.hid (RL2.out.aside HO2.out g3)
            clear HO2 HB2 HT2 g3 O3 B3 HT3 RL2
            have hbd : (T1.take j ++ [EnT.mk key sa q cs (srt l)]).length + (n' - j) ≤ 1048576 := by
              rw [List.length_append, List.length_take, List.length_singleton]; omega
            go_wp2_with (at_builtin; refine wpList_append_en rfl _ _ rfl w1.heap.size _ (T1.take j ++ [EnT.mk key sa q cs (srt l)]) rfl HO4.out _ _ _ _ rfl HT4.out hbd HB4.out.size ?_)
            intro v5 W5 O5 g5
            have B5 := ERow.bel HB4.out HB4.out.size HO4.out (Nat.le_refl _) g5
            have RL5 := Lib.hid (RL4.out.aside HO4.out g5)
            have RC5 := (HR1.out.keep B5).cell
            have c5 := RC5.c0
            have f5 := frozen_of (o := 0) RC5
            obtain ⟨T5, hT5⟩ : ∃ T5, (T1.take j ++ [EnT.mk key sa q cs (srt l)]) ++ T1.drop j = T5 := ⟨_, rfl⟩
            replace O5 : ERow W5 w1.heap.size v5 T5 := by rw [← hT5, List.append_assoc]; exact O5
            have HE5 := Lib.hid (show ents T5 = stepE key l (ents T) from by rw [← hT5]; exact HEN.out sa q cs)
            have HK5 := Lib.hid (show ∀ e ∈ T5, LbAt W5 e.a e.n e.c e.l from fun e he => by
              rw [← hT5] at he
              have hin : e ∈ T1 ∨ e = ⟨key, sa, q, cs, srt l⟩ := by
                rcases List.mem_append.1 he with he | he
                · rcases List.mem_append.1 he with he | he
                  · exact .inl (List.mem_of_mem_take he)
                  · exact .inr (by simpa using he)
                · exact .inl (List.mem_of_mem_drop he)
              rcases hin with he | he
              · exact (HR1.out.keep B5).ok e he
              · subst he
                obtain ⟨a9, c9, e9, t9⟩ := RL5.out.shape
                rw [HQ.out] at e9 t9
                simp only [Value.slice.injEq] at e9
                obtain ⟨rfl, _, rfl⟩ := e9
                exact t9)
            obtain ⟨a6, c6, rfl, t6⟩ := O5.shape
            have T6 := Lib.hid t6
            have RC6 := Lib.hid RC5
            have B6 := Lib.hid B5
            generalize T5.length = n6 at *
            clear HO4 HB4 g5 HT4 O5 B5 RL4 RL5 t6 RC5 hT5
            go_wp2
            go_ret
            obtain ⟨d1, d2⟩ := ref_done B6.out RC6.out T6.out HK5.out
            exact ⟨rfl, a6, n6, c6, T5, d1, HE5.out, FW.out.trans d2⟩
        · have hjz : ¬ (j : Int) < (n' : Int) := by omega
          obtain rfl : j = n' := by omega
          have HEN := Lib.hid (show ∀ sa q cs, ents ((T1.take j ++ [EnT.mk key sa q cs (srt l)]) ++ T1.drop j) = stepE key l (ents T) from fun sa q cs => by
            rw [ents_app, ents_app, stepE, if_pos HOK.out, setE, ← HE1.out, ← HM.out, List.drop_eq_nil_of_le (by rw [HL1.out]; exact Nat.le_refl _), List.append_assoc]; rfl)
          rw [Nat.sub_self] at hs3 HT3
          clear HM R2
          go_wp2_with fail
          have b0 := HBn.out.size
          have C := rsorted_any a1 n1 c1 l wr (LL.out.keep (BW.out.trans (HBn.out.mono BW.out.size))) (fun x hx => ((HOK.out.2.2.1 x hx).1).2) (by have := HOK.out.2.1; have := LL.out.1; omega)
          refine C.mono ?_
          clear C
          rintro e W2 ⟨vs, rfl, rl, b2⟩
          obtain ⟨sa, cs, rfl, ts⟩ := rl.shape
          clear ts
          obtain ⟨q, hq⟩ : ∃ q, (srt l).length = q := ⟨_, rfl⟩
          rw [hq] at rl
          rw [hq]
          have HQ := Lib.hid hq
          have O1 := HOn.out.keep b2
          have B1 := HBn.out.trans (b2.mono HBn.out.size)
          have B0 := (Below.refl W2.heap.size W2).alloc (Nat.le_refl _) (.cells #[.string (bs key), .slice sa q cs] 68)
          have HO2 := Lib.hid (O1.alloc (.cells #[.string (bs key), .slice sa q cs] 68))
          have HT2 := Lib.hid (EnAt.one W2 ⟨key, sa, q, cs, srt l⟩)
          have HB2 := Lib.hid (B1.trans (B0.mono B1.size))
          have RL2 := Lib.hid (rl.keep B0)
          clear B0 O1 HOn HBn B1 b2 rl hq
          go_wp2_with (at_builtin; refine wpList_append_en rfl _ _ rfl w1.heap.size _ (T1.take j) rfl HO2.out _ 1 1 [EnT.mk key sa q cs (srt l)] rfl HT2.out (by rw [List.length_take]; omega) HB2.out.size ?_)
          intro v3 W3 O3 g3
          have B3 := ERow.bel HB2.out HB2.out.size HO2.out (Nat.le_refl _) g3
          have c3 := (HR1.out.keep B3).cell.c0
          have HT4 := Lib.hid (HT3.out.keep B3)
          have HO4 := Lib.hid O3
          have HB4 := Lib.hid B3
          have RL4 := Lib.hid (RL2.out.aside HO2.out g3)
          clear HO2 HB2 HT2 g3 O3 B3 HT3 RL2
          have hbd : (T1.take j ++ [EnT.mk key sa q cs (srt l)]).length + (0) ≤ 1048576 := by
            rw [List.length_append, List.length_take, List.length_singleton]; omega
          go_wp2_with (at_builtin; refine wpList_append_en rfl _ _ rfl w1.heap.size _ (T1.take j ++ [EnT.mk key sa q cs (srt l)]) rfl HO4.out _ _ _ _ rfl HT4.out hbd HB4.out.size ?_)
          intro v5 W5 O5 g5
          have B5 := ERow.bel HB4.out HB4.out.size HO4.out (Nat.le_refl _) g5
          have RL5 := Lib.hid (RL4.out.aside HO4.out g5)
          have RC5 := (HR1.out.keep B5).cell
          have c5 := RC5.c0
          have f5 := frozen_of (o := 0) RC5
          obtain ⟨T5, hT5⟩ : ∃ T5, (T1.take j ++ [EnT.mk key sa q cs (srt l)]) ++ T1.drop j = T5 := ⟨_, rfl⟩
          replace O5 : ERow W5 w1.heap.size v5 T5 := by rw [← hT5, List.append_assoc]; exact O5
          have HE5 := Lib.hid (show ents T5 = stepE key l (ents T) from by rw [← hT5]; exact HEN.out sa q cs)
          have HK5 := Lib.hid (show ∀ e ∈ T5, LbAt W5 e.a e.n e.c e.l from fun e he => by
            rw [← hT5] at he
            have hin : e ∈ T1 ∨ e = ⟨key, sa, q, cs, srt l⟩ := by
              rcases List.mem_append.1 he with he | he
              · rcases List.mem_append.1 he with he | he
                · exact .inl (List.mem_of_mem_take he)
                · exact .inr (by simpa using he)
              · exact .inl (List.mem_of_mem_drop he)
            rcases hin with he | he
            · exact (HR1.out.keep B5).ok e he
            · subst he
              obtain ⟨a9, c9, e9, t9⟩ := RL5.out.shape
              rw [HQ.out] at e9 t9
              simp only [Value.slice.injEq] at e9
              obtain ⟨rfl, _, rfl⟩ := e9
              exact t9)
          obtain ⟨a6, c6, rfl, t6⟩ := O5.shape
          have T6 := Lib.hid t6
          have RC6 := Lib.hid RC5
          have B6 := Lib.hid B5
          generalize T5.length = n6 at *
          clear HO4 HB4 g5 HT4 O5 B5 RL4 RL5 t6 RC5 hT5
          go_wp2
          go_ret
          obtain ⟨d1, d2⟩ := ref_done B6.out RC6.out T6.out HK5.out
          exact ⟨rfl, a6, n6, c6, T5, d1, HE5.out, FW.out.trans d2⟩
    · rw [decide_eq_false k2] at HRG
      have hok : ¬ okE key l := fun h => k2 h.2
      rw [if_neg hok, show stepE key l (ents T) = ents T from if_neg hok]
      clear k1 k2 hok
      go_enter Try.func13, Try.ntmps13
      go_wp2_with fail
      refine HK.out.mono ?_
      rintro e w' ⟨rfl, rfl⟩
      go_wp2_with fail
      refine HRG.out.mono ?_
      rintro e w0 ⟨rfl, hd⟩
      go_wp2
      go_ret
      exact ⟨rfl, a, n, c, T, HR.out.keep hd.bel, rfl, Far.of hd.bel⟩
  · rw [decide_eq_false k1] at HK
    have hok : ¬ okE key l := fun h => k1 h.1
    rw [if_neg hok, show stepE key l (ents T) = ents T from if_neg hok]
    clear k1 hok
    go_enter Try.func13, Try.ntmps13
    go_wp2_with fail
    refine HK.out.mono ?_
    rintro e w' ⟨rfl, rfl⟩
    go_wp2
    go_ret
    exact ⟨rfl, a, n, c, T, HR.out, rfl, Far.of (Below.refl _ _)⟩

end Go.Proofs.Ytpkbkemenfdadaa
