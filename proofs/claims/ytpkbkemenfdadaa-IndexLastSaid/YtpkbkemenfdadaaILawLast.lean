/-
  The statement 'IndexLast' of layer 9: a key has the labels that were set last, sorted; a key that is dropped is found by nothing.
  No condition on the arguments.
-/
import Derived.Test.YtpkbkemenfdadaaIBuild
import Derived.Test.YtpkbkemenfdadaaIArgs
import Derived.Test.YtpkbkemenfdadaaRows
import Derived.Test.YtpkbkemenfdadaaIMath2
import Derived.Test.YtpkbkemenfdadaaITake
import Derived.ChangeOld
namespace Go.Proofs.Ytpkbkemenfdadaa
namespace indexLast
open Go.ChangeShapes Go.WideShapes Go.ChangeAt Go.RowKit
open Go.ChangeMaps (open_string shut_string)
set_option linter.unusedVariables false
set_option linter.unusedSimpArgs false

theorem own : ownKnob Try.prog.godebug = none := by kernel_rfl

theorem dels_set {E : List Ent} {key : Tx} {l : List Lb} (h : SS (keysL E)) : dels (setE key l E) key = dels E key := by
  unfold setE
  refine ssG_ext (ss_dels (insG_ss (ss_dels h) (dels_not E key))) (ss_dels h) (fun p => ?_)
  rw [mem_dels, mem_insG]
  constructor
  · rintro ⟨h1 | h1, h2⟩
    · rw [h1] at h2; exact absurd rfl h2
    · exact h1
  · intro h1
    exact ⟨.inr h1, (mem_dels.1 h1).2⟩
theorem set_again {E : List Ent} {key : Tx} {l : List Lb} (h : GoodE E) (hn : (keysL l).Nodup) : setE key (srt l) (setE key l E) = setE key l E := by
  have e := dels_set (key := key) (l := l) h.ss
  unfold setE at *
  rw [e, srt_self (srt_ss hn)]
theorem ss_lb {l : List Lb} (h : SS (keysL l)) {i j : Nat} (hi : i < l.length) (hj : j < l.length) (hij : i < j) : lN l i < lN l j := by
  unfold SS keysL at h
  rw [List.pairwise_map] at h
  have := List.pairwise_iff_getElem.1 h i j hi hj hij
  rw [lb_get hi, lb_get hj] at this
  exact this
theorem BoxO.trn {F : Nat → Prop} {w w' : World} {B : Nat} {k : Int} {key : Tx} {s : Value} (h : BoxO w B k key s) (t : Trn F w w') : BoxO w' B k key s := t.cells _ _ _ _ h
theorem BoxO.keep {w w' : World} {B : Nat} {k : Int} {key : Tx} {s : Value} (h : BoxO w B k key s) (b : Below w.heap.size w w') : BoxO w' B k key s := BoxO.trn (F := fun _ => False) h (.of b)
theorem BoxO.x0 {w : World} {B : Nat} {k : Int} {key : Tx} {s : Value} (h : BoxO w B k key s) : w.cell? ⟨B, 0, none⟩ = some (.int .i64 k) := by rw [cell_of h]; rfl
theorem BoxO.x1 {w : World} {B : Nat} {k : Int} {key : Tx} {s : Value} (h : BoxO w B k key s) : w.cell? ⟨B, 1, none⟩ = some (.string (bs key)) := by rw [cell_of h]; rfl
theorem BoxO.x2 {w : World} {B : Nat} {k : Int} {key : Tx} {s : Value} (h : BoxO w B k key s) : w.cell? ⟨B, 2, none⟩ = some s := by rw [cell_of h]; rfl

set_option maxRecDepth 100000 in
set_option maxHeartbeats 16000000 in
theorem walk (a : Option Addr) (n c : Nat) (z : List OpL) (o : OpL) (ao : Option Addr) (no1 co : Nat) (w : World) (h : OpAt w a n c z) (h1 : LbAt w ao no1 co o.l) :
    Calls Try.prog 5 #[.slice a n c, .agg #[.int .i64 o.k, .string (bs o.key), .slice ao no1 co]] w fun e w' => e = .returned (.bool true) ∧ Below w.heap.size w w' := by
  obtain ⟨k, key, l⟩ := o
  have hB := (Below.refl w.heap.size w).alloc (Nat.le_refl _) (.cells #[.int .i64 k, .string (bs key), .slice ao no1 co] 34)
  have BX := Lib.hid (show BoxO (w.alloc (.cells #[.int .i64 k, .string (bs key), .slice ao no1 co] 34)) w.heap.size k key (.slice ao no1 co) from heap_new w _)
  have HZ := Lib.hid (build9_any a n c z _ (h.keep hB))
  have LL := Lib.hid (show LbAt _ ao no1 co l from h1.keep hB)
  have B := Lib.hid hB
  have SZ := Lib.hid hB.size
  clear hB h h1
  go_enter Try.func5, Try.ntmps5
  go_wp2_with fail
  generalize w.alloc (.cells #[.int .i64 k, .string (bs key), .slice ao no1 co] 34) = W1 at *
  refine HZ.out.mono ?_
  rintro e W2 ⟨x, bl, bn, ρ, E, rfl, x1, e40, b1, f1⟩
  have E40 := Lib.hid e40
  have X := Lib.hid x1
  have FX := Lib.hid (show ∀ i, FA ρ i → w.heap.size ≤ i from fun i hi => Nat.le_trans SZ.out (f1 i hi))
  replace BX := Lib.hid (BoxO.keep BX.out b1)
  replace LL := Lib.hid (LL.out.keep b1)
  replace B := Lib.hid (B.out.trans (b1.mono B.out.size))
  clear HZ x1 b1 f1 e40 SZ
  have c0 := BoxO.x0 BX.out
  have c1 := BoxO.x1 BX.out
  have c2 := BoxO.x2 BX.out
  have HLT := Lib.hid (light9_any ⟨k, key, l⟩ ao no1 co W2 LL.out)
  by_cases hlt : lightO ⟨k, key, l⟩
  · rw [decide_eq_true hlt] at HLT
    go_wp2_with fail
    refine HLT.out.mono ?_
    rintro e W3 ⟨rfl, br⟩
    clear HLT
    replace X := Lib.hid (X.out.keep br)
    replace BX := Lib.hid (BoxO.keep BX.out br)
    replace LL := Lib.hid (LL.out.keep br)
    replace B := Lib.hid (B.out.trans (br.mono B.out.size))
    clear br
    clear c0 c1 c2
    have c1 := BoxO.x1 BX.out
    go_wp2_with fail
    obtain ⟨lw, hlw⟩ : ∃ lw, (look E key).getD [] = lw := ⟨_, rfl⟩
    have HLW := Lib.hid hlw
    clear hlw
    have C := ilabels_ok W3 x bl bn ρ (E) key X.out
    rw [HLW.out] at C
    refine C.mono ?_
    clear C
    rintro e W4 ⟨a_w, c_w, rfl, t, br⟩
    have Tw := Lib.hid t
    clear t
    replace X := Lib.hid (X.out.keep br)
    replace BX := Lib.hid (BoxO.keep BX.out br)
    replace LL := Lib.hid (LL.out.keep br)
    replace B := Lib.hid (B.out.trans (br.mono B.out.size))
    clear br
    obtain ⟨nw, hnw⟩ : ∃ n, lw.length = n := ⟨_, rfl⟩
    have HNW := Lib.hid hnw
    have Tw2 := Tw.out
    rw [hnw] at Tw2
    rw [hnw]
    replace Tw := Lib.hid Tw2
    clear Tw2 hnw
    obtain ⟨sz, hsz⟩ : ∃ n, sizeE E = n := ⟨_, rfl⟩
    have HSZ := Lib.hid hsz
    clear hsz
    clear c1
    go_wp2_with fail
    have C := isize_ok W4 x bl bn ρ (E) X.out (by have := E40.out; omega)
    rw [HSZ.out] at C
    refine C.mono ?_
    clear C
    rintro e W5 ⟨rfl, br⟩
    replace X := Lib.hid (X.out.keep br)
    replace BX := Lib.hid (BoxO.keep BX.out br)
    replace LL := Lib.hid (LL.out.keep br)
    replace Tw := Lib.hid (Tw.out.keep br)
    replace B := Lib.hid (B.out.trans (br.mono B.out.size))
    clear br
    have c1 := BoxO.x1 BX.out
    have c2 := BoxO.x2 BX.out
    go_wp2_with fail
    have HS := Lib.hid (iset_ok W5 x bl bn ρ E key ao no1 co l X.out LL.out)
    by_cases hok : okE key l
    · rw [if_pos hok, show stepE key l E = setE key l E from if_pos hok] at HS
      have HOK := Lib.hid hok
      have HG := Lib.hid X.out.good
      obtain ⟨sl, hsl⟩ : ∃ sl, srt l = sl := ⟨_, rfl⟩
      have HSL := Lib.hid hsl
      obtain ⟨E1, hE1⟩ : ∃ E1, setE key l E = E1 := ⟨_, rfl⟩
      have HE1 := Lib.hid hE1
      rw [hE1] at HS
      have HOK2 := Lib.hid (show okE key sl from ⟨hok.1, by rw [← hsl]; exact right_srt hok.2⟩)
      have HST := Lib.hid (show stepE key sl E1 = E1 from by rw [← hsl, ← hE1, stepE, if_pos (show okE key (srt l) from ⟨hok.1, right_srt hok.2⟩)]; exact set_again HG.out hok.2.2.2)
      have HLK := Lib.hid (show (look E1 key).getD [] = sl from by rw [← hE1, look_set_same key l HG.out.ss, hsl]; rfl)
      have HDE := Lib.hid (show dels E1 key = dels E key from by rw [← hE1]; exact dels_set HG.out.ss)
      have HSS := Lib.hid (show SS (keysL sl) from by rw [← hsl]; exact srt_ss hok.2.2.2)
      have HNL := Lib.hid (show sl.length = no1 from by rw [← hsl, srt_len, LL.out.1])
      have HIN := Lib.hid (show key ∈ keysL E1 from by rw [← hE1]; exact keys_insG.2 (.inl rfl))
      have hn1 : no1 ≤ 8 := by have := hok.2.1; rw [LL.out.1] at this; exact this
      have e41 : E1.length ≤ 41 := by rw [← hE1]; exact Nat.le_trans (set_len key l E) (by have := E40.out; omega)
      have E41 := Lib.hid e41
      have hs0 : sz ≤ 320 := by rw [← HSZ.out]; exact Nat.le_trans (size_le E HG.out.right) (by have := E40.out; omega)
      obtain ⟨ms, hms⟩ : ∃ n, sizeE E1 = n := ⟨_, rfl⟩
      obtain ⟨sd, hsd⟩ : ∃ n, sizeE (dels E1 key) = n := ⟨_, rfl⟩
      have hsz1 : ms = sd + no1 := by
        rw [← hms, ← hsd, HDE.out, ← hE1]
        unfold setE
        rw [size_ins, srt_len, LL.out.1]
      have hsz2 : sd + nw = sz := by rw [← hsd, HDE.out, ← HNW.out, ← HLW.out, ← HSZ.out]; exact size_dels key (ssG_nodup HG.out.ss)
      have HMS := Lib.hid hms
      have HSD := Lib.hid hsd
      have HRS := Lib.hid (show ∀ x ∈ sl, keyB x.1 ∧ keyB x.2 from by rw [← hsl]; exact (right_srt hok.2).2.1)
      clear hok hsl hE1 e41 hms hsd
      refine HS.out.mono ?_
      clear HS
      rintro e W6 ⟨rfl, ρ1, tt⟩
      replace X := Lib.hid tt.ix
      replace BX := Lib.hid (BoxO.trn BX.out tt.trn)
      replace LL := Lib.hid (LL.out.trn tt.trn)
      replace Tw := Lib.hid (Tw.out.trn tt.trn)
      have FY := Lib.hid (fa_turn FX.out tt B.out.size)
      replace B := Lib.hid (Trn.below B.out B.out.size tt.trn (fun i hi f => by have := FX.out i f; omega))
      clear FX
      have FX := FY
      clear FY tt
      clear c1 c2
      have c1 := BoxO.x1 BX.out
      go_wp2_with fail
      have C := ilabels_ok W6 x bl bn ρ1 (E1) key X.out
      rw [HLK.out] at C
      refine C.mono ?_
      clear C
      rintro e W7 ⟨a_l, c_l, rfl, t, br⟩
      have Tl := Lib.hid t
      clear t
      replace X := Lib.hid (X.out.keep br)
      replace BX := Lib.hid (BoxO.keep BX.out br)
      replace LL := Lib.hid (LL.out.keep br)
      replace Tw := Lib.hid (Tw.out.keep br)
      replace B := Lib.hid (B.out.trans (br.mono B.out.size))
      clear br
      rw [HNL.out]
      have T2 := Tl.out
      rw [HNL.out] at T2
      replace Tl := Lib.hid T2
      clear T2
      clear c1
      go_wp2_with fail
      have C := isize_ok W7 x bl bn ρ1 (E1) X.out (by have := E41.out; omega)
      rw [HMS.out] at C
      refine C.mono ?_
      clear C
      rintro e W8 ⟨rfl, br⟩
      replace X := Lib.hid (X.out.keep br)
      replace BX := Lib.hid (BoxO.keep BX.out br)
      replace LL := Lib.hid (LL.out.keep br)
      replace Tw := Lib.hid (Tw.out.keep br)
      replace Tl := Lib.hid (Tl.out.keep br)
      replace B := Lib.hid (B.out.trans (br.mono B.out.size))
      clear br
      have c1 := BoxO.x1 BX.out
      go_wp2_with fail
      have C := iset_ok W8 x bl bn ρ1 E1 key a_l no1 c_l sl X.out Tl.out
      rw [if_pos HOK2.out, HST.out] at C
      refine C.mono ?_
      clear C
      rintro e W9 ⟨rfl, ρ2, tt⟩
      replace X := Lib.hid tt.ix
      replace BX := Lib.hid (BoxO.trn BX.out tt.trn)
      replace LL := Lib.hid (LL.out.trn tt.trn)
      replace Tw := Lib.hid (Tw.out.trn tt.trn)
      replace Tl := Lib.hid (Tl.out.trn tt.trn)
      have FY := Lib.hid (fa_turn FX.out tt B.out.size)
      replace B := Lib.hid (Trn.below B.out B.out.size tt.trn (fun i hi f => by have := FX.out i f; omega))
      clear FX
      have FX := FY
      clear FY tt
      clear c1
      have c1 := BoxO.x1 BX.out
      go_wp2_with fail
      have C := ilabels_ok W9 x bl bn ρ2 (E1) key X.out
      rw [HLK.out] at C
      refine C.mono ?_
      clear C
      rintro e W10 ⟨a_y, c_y, rfl, t, br⟩
      have Ty := Lib.hid t
      clear t
      replace X := Lib.hid (X.out.keep br)
      replace BX := Lib.hid (BoxO.keep BX.out br)
      replace LL := Lib.hid (LL.out.keep br)
      replace Tw := Lib.hid (Tw.out.keep br)
      replace Tl := Lib.hid (Tl.out.keep br)
      replace B := Lib.hid (B.out.trans (br.mono B.out.size))
      clear br
      rw [HNL.out]
      have T2 := Ty.out
      rw [HNL.out] at T2
      replace Ty := Lib.hid T2
      clear T2
      clear c1
      have c1 := BoxO.x1 BX.out
      go_wp2_with fail
      have C := idrop_ok W10 x bl bn ρ2 E1 key X.out
      rw [decide_eq_true HIN.out] at C
      refine C.mono ?_
      clear C
      rintro e W11 ⟨rfl, tt⟩
      replace X := Lib.hid tt.ix
      replace BX := Lib.hid (BoxO.trn BX.out tt.trn)
      replace LL := Lib.hid (LL.out.trn tt.trn)
      replace Tw := Lib.hid (Tw.out.trn tt.trn)
      replace Tl := Lib.hid (Tl.out.trn tt.trn)
      replace Ty := Lib.hid (Ty.out.trn tt.trn)
      have FY := Lib.hid (fa_turn FX.out tt B.out.size)
      replace B := Lib.hid (Trn.below B.out B.out.size tt.trn (fun i hi f => by have := FX.out i f; omega))
      clear FX
      have FX := FY
      clear FY tt
      clear c1
      obtain ⟨E3, hE3⟩ : ∃ E3, dels E1 key = E3 := ⟨_, rfl⟩
      have HE3 := Lib.hid hE3
      have E43 := Lib.hid (show E3.length ≤ 41 from by rw [← hE3]; exact Nat.le_trans (dels_len E1 key) E41.out)
      have HNO := Lib.hid (show key ∉ keysL E3 from by rw [← hE3]; exact dels_not E1 key)
      rw [hE3] at X HSD
      clear hE3
      go_wp2_with fail
      go_loopw [14] (fun vi wr => ∃ (j : Nat), vi = .int .i64 (j : Int) ∧ j ≤ no1 ∧ Hid (IxAt wr x bl bn ρ2 E3) ∧ Hid (BoxO wr w.heap.size k key (.slice ao no1 co)) ∧ Hid (LbAt wr ao no1 co l) ∧ Hid (LbAt wr a_w nw c_w lw) ∧ Hid (LbAt wr a_l no1 c_l sl) ∧ Hid (LbAt wr a_y no1 c_y sl) ∧ Hid (Below w.heap.size w wr)) (fun vi _ => no1 - (intOf vi).toNat)
      case atStart => exact ⟨0, rfl, Nat.zero_le _, X, BX, LL, Tw, Tl, Ty, B⟩
      case round =>
        clear X BX LL Tw Tl Ty B
        obtain ⟨j, rfl, hj, X, BX, LL, Tw, Tl, Ty, B⟩ := hrel
        by_cases hjn : j < no1
        · have hjz : (j : Int) < (no1 : Int) := by omega
          have hj0 : (0 : Int) ≤ (j : Int) := by omega
          have hjl : j < sl.length := by rw [HNL.out]; exact hjn
          have XD := Lib.hid (X.out.trn (Trn.drew (fun _ => False) wr) (fun _ _ _ f => f))
          have BD := Lib.hid (bel_drew B.out)
          have hwb := B.out.size
          have hbx : w.heap.size < wr.heap.size := heap_lt BX.out
          have c1 := BoxO.x1 BX.out
          have HNF := Lib.hid (show ¬ key ∈ findE E3 (lN sl j) (lV sl j) from fun h => HNO.out (SOf.key (mem_find.1 h)))
          by_cases hj1 : 0 < j
          · have hj1z : (0 : Int) < (j : Int) := by omega
            have hj1y : (0 : Int) ≤ (j : Int) - 1 := by omega
            have hj1x : (j : Int) - 1 < (no1 : Int) := by omega
            obtain ⟨q, hq⟩ : ∃ q, j = q + 1 := ⟨j - 1, by omega⟩
            obtain ⟨pb, po, e1, hpb, z0, z1, y0, y1⟩ := Tl.out.two q j (by omega) hjn
            subst e1
            have hq0 : (lN sl q).length ≤ 64 := (HRS.out _ (lb_mem (l := sl) (i := q) (by omega))).1.2
            have hq1 : (lN sl j).length ≤ 64 := (HRS.out _ (lb_mem (l := sl) (i := j) hjl)).1.2
            have HBL := Lib.hid (fun W => rbelow_any (lN sl q) (lN sl j) W (by omega) (by omega))
            clear hq0 hq1
            have HLT := Lib.hid (show lN sl q < lN sl j from ss_lb HSS.out (by omega) hjl (by omega))
            have hw1 : IntKind.i64.wrap ((j : Int) - 1) = (q : Int) := by rw [hq]; unfold IntKind.wrap; simp [IntKind.bits, IntKind.signed]; omega
            have hq2 : (0 : Int) ≤ (q : Int) := by omega
            have hq3 : (q : Int) < (no1 : Int) := by omega
            clear hq hj1y hj1x
            generalize lN sl j = nm at *
            generalize lV sl j = vl at *
            generalize lN sl q = nm0 at *
            go_wp2_with fail
            go_region_held3 (fun w' => w'.cell? ⟨pb, po + j * 2, none⟩ = some (.string (bs nm)) ∧ w'.cell? ⟨pb, po + j * 2 + 1, none⟩ = some (.string (bs vl)) ∧ w'.cell? ⟨w.heap.size, 1, none⟩ = some (.string (bs key)) ∧ w'.cell? ⟨pb, po + q * 2, none⟩ = some (.string (bs nm0)))
              (first
                | exact d7.out
                | exact d8.out
                | go_keep
                | fail)
              (first
                | (go_at_call 26
                   (with_reducible refine (ifind_ok _ x bl bn ρ2 E3 nm vl XD.out (by have := E43.out; omega)).mono ?_)
                   rintro e W7 ⟨a7, c7, rfl, t7, b7⟩
                   have T7 := Lib.hid t7
                   have B7 := Lib.hid b7
                   have d7 := Lib.hid (show W7.cell? ⟨pb, po + j * 2, none⟩ = some (.string (bs nm)) ∧ W7.cell? ⟨pb, po + j * 2 + 1, none⟩ = some (.string (bs vl)) ∧ W7.cell? ⟨w.heap.size, 1, none⟩ = some (.string (bs key)) ∧ W7.cell? ⟨pb, po + q * 2, none⟩ = some (.string (bs nm0)) from
                     ⟨(b7.cell (p := ⟨pb, po + j * 2, none⟩) hpb).trans y0, (b7.cell (p := ⟨pb, po + j * 2 + 1, none⟩) hpb).trans y1, (b7.cell (p := ⟨w.heap.size, 1, none⟩) hbx).trans c1, (b7.cell (p := ⟨pb, po + q * 2, none⟩) hpb).trans z0⟩)
                   clear t7 b7)
                | (go_at_call 35
                   (with_reducible refine (rhas8_any a7 _ c7 (findE E3 nm vl) key W7 T7.out).mono ?_)
                   rintro e w' ⟨rfl, rfl⟩
                   rw [decide_eq_false HNF.out])
                | (go_at_call 36
                   (with_reducible refine (HBL.out W7).mono ?_)
                   rintro e W8 ⟨rfl, dr⟩
                   rw [decide_eq_true HLT.out]
                   have B8 := Lib.hid (B7.out.trans (dr.bel.mono B7.out.size))
                   have d8 := Lib.hid (show W8.cell? ⟨pb, po + j * 2, none⟩ = some (.string (bs nm)) ∧ W8.cell? ⟨pb, po + j * 2 + 1, none⟩ = some (.string (bs vl)) ∧ W8.cell? ⟨w.heap.size, 1, none⟩ = some (.string (bs key)) ∧ W8.cell? ⟨pb, po + q * 2, none⟩ = some (.string (bs nm0)) from
                     ⟨(B8.out.cell (p := ⟨pb, po + j * 2, none⟩) hpb).trans y0, (B8.out.cell (p := ⟨pb, po + j * 2 + 1, none⟩) hpb).trans y1, (B8.out.cell (p := ⟨w.heap.size, 1, none⟩) hbx).trans c1, (B8.out.cell (p := ⟨pb, po + q * 2, none⟩) hpb).trans z0⟩)
                   clear dr)
                | fail)
            have br := B8.out
            have DD := Lib.hid (Trn.drew (fun _ => False) wr)
            have X9 := Lib.hid (XD.out.keep br)
            have BX9 := Lib.hid (BoxO.keep (BoxO.trn BX.out DD.out) br)
            have LL9 := Lib.hid ((LL.out.trn DD.out).keep br)
            have Tw9 := Lib.hid ((Tw.out.trn DD.out).keep br)
            have Tl9 := Lib.hid ((Tl.out.trn DD.out).keep br)
            have Ty9 := Lib.hid ((Ty.out.trn DD.out).keep br)
            have B9 := Lib.hid (BD.out.trans (br.mono BD.out.size))
            clear d8 B8 z0 d7 T7 B7 br DD XD BD X BX LL Tw Tl Ty B c1 y0 y1
            go_wp2
            go_roundw
            case rel => exact ⟨j + 1, by go_num, by omega, X9, BX9, LL9, Tw9, Tl9, Ty9, B9⟩
            case measure => simp [intOf]; omega
          · obtain rfl : j = 0 := by omega
            obtain ⟨pb, po, e1, hpb, y0, y1⟩ := Tl.out.at_ 0 hjn
            subst e1
            replace y0 : wr.cell? ⟨pb, po, none⟩ = some (.string (bs (lN sl 0))) := by simpa using y0
            replace y1 : wr.cell? ⟨pb, po + 1, none⟩ = some (.string (bs (lV sl 0))) := by simpa using y1
            generalize lN sl 0 = nm at *
            generalize lV sl 0 = vl at *
            go_wp2_with fail
            refine wp_region_held_drew (S := (fun w' => w'.cell? ⟨pb, po, none⟩ = some (.string (bs nm)) ∧ w'.cell? ⟨pb, po + 1, none⟩ = some (.string (bs vl)) ∧ w'.cell? ⟨w.heap.size, 1, none⟩ = some (.string (bs key)))) (by kernel_rfl) ⟨y0, y1, c1⟩ (fun hHeld => ?_)
            refine take_on (i := 0) (d := some 91) (v := .pointer (some ⟨x, 0, none⟩)) rfl (by kernel_rfl) (by kernel_rfl) (by kernel_rfl) rfl (fun _ _ _ h => h) (by kernel_rfl) (by intro w hSw; (try dsimp only at hSw); go_simp) (by assumption) rfl rfl ?_
            (try simp only [Act.put, List.setIfInBounds_toArray, List.set_cons_zero, List.set_cons_succ])
            refine take_on (i := 1) (d := some 92) (v := .slice (some ⟨pb, po, none⟩) no1 c_l) rfl (by kernel_rfl) (by kernel_rfl) (by kernel_rfl) rfl (fun _ _ _ h => h) (by kernel_rfl) (by intro w hSw; (try dsimp only at hSw); go_simp) (by assumption) rfl rfl ?_
            (try simp only [Act.put, List.setIfInBounds_toArray, List.set_cons_zero, List.set_cons_succ])
            refine take_on (i := 2) (d := some 93) (v := .int .i64 0) rfl (by kernel_rfl) (by kernel_rfl) (by kernel_rfl) rfl (fun _ _ _ h => h) (by kernel_rfl) (by intro w hSw; (try dsimp only at hSw); go_simp) (by assumption) rfl rfl ?_
            (try simp only [Act.put, List.setIfInBounds_toArray, List.set_cons_zero, List.set_cons_succ])
            refine take_on (i := 3) (d := some 94) (v := .pointer (some ⟨pb, po, none⟩)) rfl (by kernel_rfl) (by kernel_rfl) (by kernel_rfl) rfl (fun _ _ _ h => h) (by kernel_rfl) (by intro w hSw; (try dsimp only at hSw); go_simp) (by assumption) rfl rfl ?_
            (try simp only [Act.put, List.setIfInBounds_toArray, List.set_cons_zero, List.set_cons_succ])
            refine take_on (i := 4) (d := some 95) (v := .pointer (some ⟨pb, po, none⟩)) rfl (by kernel_rfl) (by kernel_rfl) (by kernel_rfl) rfl (fun _ _ _ h => h) (by kernel_rfl) (by intro w hSw; (try dsimp only at hSw); go_simp) (by assumption) rfl rfl ?_
            (try simp only [Act.put, List.setIfInBounds_toArray, List.set_cons_zero, List.set_cons_succ])
            refine take_on (i := 5) (d := some 96) (v := .string (bs nm)) rfl (by kernel_rfl) (by kernel_rfl) (by kernel_rfl) rfl (fun _ _ _ h => h) (by kernel_rfl) (by intro w hSw; (try dsimp only at hSw); go_simp) (by assumption) rfl rfl ?_
            (try simp only [Act.put, List.setIfInBounds_toArray, List.set_cons_zero, List.set_cons_succ])
            refine take_on (i := 6) (d := some 97) (v := .slice (some ⟨pb, po, none⟩) no1 c_l) rfl (by kernel_rfl) (by kernel_rfl) (by kernel_rfl) rfl (fun _ _ _ h => h) (by kernel_rfl) (by intro w hSw; (try dsimp only at hSw); go_simp) (by assumption) rfl rfl ?_
            (try simp only [Act.put, List.setIfInBounds_toArray, List.set_cons_zero, List.set_cons_succ])
            refine take_on (i := 7) (d := some 98) (v := .int .i64 0) rfl (by kernel_rfl) (by kernel_rfl) (by kernel_rfl) rfl (fun _ _ _ h => h) (by kernel_rfl) (by intro w hSw; (try dsimp only at hSw); go_simp) (by assumption) rfl rfl ?_
            (try simp only [Act.put, List.setIfInBounds_toArray, List.set_cons_zero, List.set_cons_succ])
            refine take_on (i := 8) (d := some 99) (v := .pointer (some ⟨pb, po, none⟩)) rfl (by kernel_rfl) (by kernel_rfl) (by kernel_rfl) rfl (fun _ _ _ h => h) (by kernel_rfl) (by intro w hSw; (try dsimp only at hSw); go_simp) (by assumption) rfl rfl ?_
            (try simp only [Act.put, List.setIfInBounds_toArray, List.set_cons_zero, List.set_cons_succ])
            refine take_on (i := 9) (d := some 100) (v := .pointer (some ⟨pb, po + 1, none⟩)) rfl (by kernel_rfl) (by kernel_rfl) (by kernel_rfl) rfl (fun _ _ _ h => h) (by kernel_rfl) (by intro w hSw; (try dsimp only at hSw); go_simp) (by assumption) rfl rfl ?_
            (try simp only [Act.put, List.setIfInBounds_toArray, List.set_cons_zero, List.set_cons_succ])
            refine take_on (i := 10) (d := some 101) (v := .string (bs vl)) rfl (by kernel_rfl) (by kernel_rfl) (by kernel_rfl) rfl (fun _ _ _ h => h) (by kernel_rfl) (by intro w hSw; (try dsimp only at hSw); go_simp) (by assumption) rfl rfl ?_
            (try simp only [Act.put, List.setIfInBounds_toArray, List.set_cons_zero, List.set_cons_succ])
            refine take_on (i := 12) (d := some 103) (v := .pointer (some ⟨w.heap.size, 1, none⟩)) rfl (by kernel_rfl) (by kernel_rfl) (by kernel_rfl) rfl (fun _ _ _ h => h) (by kernel_rfl) (by intro w hSw; (try dsimp only at hSw); go_simp) (by assumption) rfl rfl ?_
            (try simp only [Act.put, List.setIfInBounds_toArray, List.set_cons_zero, List.set_cons_succ])
            refine take_on (i := 13) (d := some 104) (v := .string (bs key)) rfl (by kernel_rfl) (by kernel_rfl) (by kernel_rfl) rfl (fun _ _ _ h => h) (by kernel_rfl) (by intro w hSw; (try dsimp only at hSw); go_simp) (by assumption) rfl rfl ?_
            (try simp only [Act.put, List.setIfInBounds_toArray, List.set_cons_zero, List.set_cons_succ])
            refine wpAnyH_ready (rs := [11]) (by kernel_rfl) (by simp) ?_
            refine AllReadyH.cons (o := _) rfl (fun K hK => ?_) AllReadyH.nil
            go_simp
            go_at_call 26
            with_reducible refine (ifind_ok _ x bl bn ρ2 E3 nm vl XD.out (by have := E43.out; omega)).mono ?_
            rintro e W7 ⟨a7, c7, rfl, t7, b7⟩
            have T7 := Lib.hid t7
            have B7 := Lib.hid b7
            have d7 := Lib.hid (show W7.cell? ⟨pb, po, none⟩ = some (.string (bs nm)) ∧ W7.cell? ⟨pb, po + 1, none⟩ = some (.string (bs vl)) ∧ W7.cell? ⟨w.heap.size, 1, none⟩ = some (.string (bs key)) from
              ⟨(b7.cell (p := ⟨pb, po, none⟩) hpb).trans y0, (b7.cell (p := ⟨pb, po + 1, none⟩) hpb).trans y1, (b7.cell (p := ⟨w.heap.size, 1, none⟩) hbx).trans c1⟩)
            clear t7 b7
            go_wp2_with fail
            refine hK.out _ _ ?_ (fun hHeld2 => ?_)
            · exact d7.out
            clear hK K
            (try simp only [Act.put, List.setIfInBounds_toArray, List.set_cons_zero, List.set_cons_succ])
            refine wpAnyH_ready (rs := [14]) (by kernel_rfl) (by simp) ?_
            refine AllReadyH.cons (o := _) rfl (fun K hK => ?_) AllReadyH.nil
            go_simp
            go_at_call 35
            with_reducible refine (rhas8_any a7 _ c7 (findE E3 nm vl) key W7 T7.out).mono ?_
            rintro e w' ⟨rfl, rfl⟩
            rw [decide_eq_false HNF.out]
            go_wp2_with fail
            refine hK.out _ _ ?_ (fun hHeld2 => ?_)
            · exact d7.out
            clear hK K
            (try simp only [Act.put, List.setIfInBounds_toArray, List.set_cons_zero, List.set_cons_succ])
            refine take_on (i := 15) (d := some 106) (v := .bool false) rfl (by kernel_rfl) (by kernel_rfl) (by kernel_rfl) rfl (fun _ _ _ h => h) (by kernel_rfl) (by intro w hSw; (try dsimp only at hSw); go_simp) (by assumption) rfl rfl ?_
            (try simp only [Act.put, List.setIfInBounds_toArray, List.set_cons_zero, List.set_cons_succ])
            refine take_on (i := 16) (d := some 107) (v := .int .i64 0) rfl (by kernel_rfl) (by kernel_rfl) (by kernel_rfl) rfl (fun _ _ _ h => h) (by kernel_rfl) (by intro w hSw; (try dsimp only at hSw); go_simp) (by assumption) rfl rfl ?_
            (try simp only [Act.put, List.setIfInBounds_toArray, List.set_cons_zero, List.set_cons_succ])
            refine take_on (i := 17) (d := some 108) (v := .bool false) rfl (by kernel_rfl) (by kernel_rfl) (by kernel_rfl) rfl (fun _ _ _ h => h) (by kernel_rfl) (by intro w hSw; (try dsimp only at hSw); go_simp) (by assumption) rfl rfl ?_
            (try simp only [Act.put, List.setIfInBounds_toArray, List.set_cons_zero, List.set_cons_succ])
            refine take_on (i := 18) (d := some 109) (v := .bool false) rfl (by kernel_rfl) (by kernel_rfl) (by kernel_rfl) rfl (fun _ _ _ h => h) (by kernel_rfl) (by intro w hSw; (try dsimp only at hSw); go_simp) (by assumption) rfl rfl ?_
            (try simp only [Act.put, List.setIfInBounds_toArray, List.set_cons_zero, List.set_cons_succ])
            refine take_off (i := 19) (d := some 110) rfl (by kernel_rfl) (by kernel_rfl) (by kernel_rfl) rfl (fun _ _ _ h => h) (by kernel_rfl) (by assumption) rfl rfl ?_
            (try simp only [Act.put, List.setIfInBounds_toArray, List.set_cons_zero, List.set_cons_succ])
            refine take_off (i := 20) (d := some 111) rfl (by kernel_rfl) (by kernel_rfl) (by kernel_rfl) rfl (fun _ _ _ h => h) (by kernel_rfl) (by assumption) rfl rfl ?_
            (try simp only [Act.put, List.setIfInBounds_toArray, List.set_cons_zero, List.set_cons_succ])
            refine take_off (i := 21) (d := some 112) rfl (by kernel_rfl) (by kernel_rfl) (by kernel_rfl) rfl (fun _ _ _ h => h) (by kernel_rfl) (by assumption) rfl rfl ?_
            (try simp only [Act.put, List.setIfInBounds_toArray, List.set_cons_zero, List.set_cons_succ])
            refine take_off (i := 22) (d := some 113) rfl (by kernel_rfl) (by kernel_rfl) (by kernel_rfl) rfl (fun _ _ _ h => h) (by kernel_rfl) (by assumption) rfl rfl ?_
            (try simp only [Act.put, List.setIfInBounds_toArray, List.set_cons_zero, List.set_cons_succ])
            refine take_off (i := 23) (d := some 114) rfl (by kernel_rfl) (by kernel_rfl) (by kernel_rfl) rfl (fun _ _ _ h => h) (by kernel_rfl) (by assumption) rfl rfl ?_
            (try simp only [Act.put, List.setIfInBounds_toArray, List.set_cons_zero, List.set_cons_succ])
            refine take_off (i := 24) (d := some 115) rfl (by kernel_rfl) (by kernel_rfl) (by kernel_rfl) rfl (fun _ _ _ h => h) (by kernel_rfl) (by assumption) rfl rfl ?_
            (try simp only [Act.put, List.setIfInBounds_toArray, List.set_cons_zero, List.set_cons_succ])
            refine take_off (i := 25) (d := some 116) rfl (by kernel_rfl) (by kernel_rfl) (by kernel_rfl) rfl (fun _ _ _ h => h) (by kernel_rfl) (by assumption) rfl rfl ?_
            (try simp only [Act.put, List.setIfInBounds_toArray, List.set_cons_zero, List.set_cons_succ])
            refine take_off (i := 26) (d := some 117) rfl (by kernel_rfl) (by kernel_rfl) (by kernel_rfl) rfl (fun _ _ _ h => h) (by kernel_rfl) (by assumption) rfl rfl ?_
            (try simp only [Act.put, List.setIfInBounds_toArray, List.set_cons_zero, List.set_cons_succ])
            refine take_off (i := 27) (d := some 118) rfl (by kernel_rfl) (by kernel_rfl) (by kernel_rfl) rfl (fun _ _ _ h => h) (by kernel_rfl) (by assumption) rfl rfl ?_
            (try simp only [Act.put, List.setIfInBounds_toArray, List.set_cons_zero, List.set_cons_succ])
            refine take_off (i := 28) (d := some 119) rfl (by kernel_rfl) (by kernel_rfl) (by kernel_rfl) rfl (fun _ _ _ h => h) (by kernel_rfl) (by assumption) rfl rfl ?_
            (try simp only [Act.put, List.setIfInBounds_toArray, List.set_cons_zero, List.set_cons_succ])
            refine take_off (i := 29) (d := some 120) rfl (by kernel_rfl) (by kernel_rfl) (by kernel_rfl) rfl (fun _ _ _ h => h) (by kernel_rfl) (by assumption) rfl rfl ?_
            (try simp only [Act.put, List.setIfInBounds_toArray, List.set_cons_zero, List.set_cons_succ])
            refine take_off (i := 30) (d := some 121) rfl (by kernel_rfl) (by kernel_rfl) (by kernel_rfl) rfl (fun _ _ _ h => h) (by kernel_rfl) (by assumption) rfl rfl ?_
            (try simp only [Act.put, List.setIfInBounds_toArray, List.set_cons_zero, List.set_cons_succ])
            refine take_off (i := 31) (d := some 122) rfl (by kernel_rfl) (by kernel_rfl) (by kernel_rfl) rfl (fun _ _ _ h => h) (by kernel_rfl) (by assumption) rfl rfl ?_
            (try simp only [Act.put, List.setIfInBounds_toArray, List.set_cons_zero, List.set_cons_succ])
            refine take_on (i := 32) (d := some 123) (v := .bool false) rfl (by kernel_rfl) (by kernel_rfl) (by kernel_rfl) rfl (fun _ _ _ h => h) (by kernel_rfl) (by intro w hSw; clear hSw; kernel_rfl) (by assumption) rfl rfl ?_
            (try simp only [Act.put, List.setIfInBounds_toArray, List.set_cons_zero, List.set_cons_succ])
            refine take_on (i := 33) (d := some 124) (v := .bool false) rfl (by kernel_rfl) (by kernel_rfl) (by kernel_rfl) rfl (fun _ _ _ h => h) (by kernel_rfl) (by intro w hSw; clear hSw; kernel_rfl) (by assumption) rfl rfl ?_
            (try simp only [Act.put, List.setIfInBounds_toArray, List.set_cons_zero, List.set_cons_succ])
            refine wpAnyH_done (by kernel_rfl) ?_ _
            have br := B7.out
            have DD := Lib.hid (Trn.drew (fun _ => False) wr)
            have X9 := Lib.hid (XD.out.keep br)
            have BX9 := Lib.hid (BoxO.keep (BoxO.trn BX.out DD.out) br)
            have LL9 := Lib.hid ((LL.out.trn DD.out).keep br)
            have Tw9 := Lib.hid ((Tw.out.trn DD.out).keep br)
            have Tl9 := Lib.hid ((Tl.out.trn DD.out).keep br)
            have Ty9 := Lib.hid ((Ty.out.trn DD.out).keep br)
            have B9 := Lib.hid (BD.out.trans (br.mono BD.out.size))
            clear d7 T7 B7 br DD XD BD X BX LL Tw Tl Ty B c1 y0 y1
            go_wp2
            go_roundw
            case rel => exact ⟨0 + 1, by go_num, by omega, X9, BX9, LL9, Tw9, Tl9, Ty9, B9⟩
            case measure => simp [intOf]; omega
        · have hjz : ¬ (j : Int) < (no1 : Int) := by omega
          obtain rfl : j = no1 := by omega
          have c1 := BoxO.x1 BX.out
          have c2 := BoxO.x2 BX.out
          have hm1 : (ms : Int) = (sz : Int) - (nw : Int) + (j : Int) := by omega
          have hm2 : (sd : Int) = (ms : Int) - (j : Int) := by omega
          clear hsz1 hsz2
          go_wp2_with fail
          have C := same9_any a_y j c_y sl a_l j c_l sl wr Ty.out Tl.out
          rw [decide_eq_true rfl] at C
          refine C.mono ?_
          clear C
          rintro e V1 ⟨rfl, hd⟩
          have br := hd.bel
          clear hd
          replace X := Lib.hid (X.out.keep br)
          replace BX := Lib.hid (BoxO.keep BX.out br)
          replace LL := Lib.hid (LL.out.keep br)
          replace B := Lib.hid (B.out.trans (br.mono B.out.size))
          clear br
          go_wp2_with fail
          have C := isize_ok V1 x bl bn ρ2 (E3) X.out (by have := E43.out; omega)
          rw [HSD.out] at C
          refine C.mono ?_
          clear C
          rintro e W31 ⟨rfl, br⟩
          replace X := Lib.hid (X.out.keep br)
          replace BX := Lib.hid (BoxO.keep BX.out br)
          replace LL := Lib.hid (LL.out.keep br)
          replace B := Lib.hid (B.out.trans (br.mono B.out.size))
          clear br
          clear c1 c2
          have c1 := BoxO.x1 BX.out
          go_wp2_with fail
          have C := ihas_ok W31 x bl bn ρ2 E3 key X.out
          rw [decide_eq_false HNO.out] at C
          refine C.mono ?_
          clear C
          rintro e w' ⟨rfl, rfl⟩
          go_wp2_with fail
          refine (iknown_any _).mono ?_
          rintro e w9 ⟨rfl, b9⟩
          go_wp2
          go_ret
          exact ⟨rfl, B.out.trans (b9.mono B.out.size)⟩
    · rw [if_neg hok, show stepE key l E = E from if_neg hok] at HS
      have HOK := Lib.hid hok
      clear hok
      refine HS.out.mono ?_
      clear HS
      rintro e W6 ⟨rfl, ρ1, tt⟩
      replace X := Lib.hid tt.ix
      replace BX := Lib.hid (BoxO.trn BX.out tt.trn)
      replace LL := Lib.hid (LL.out.trn tt.trn)
      replace Tw := Lib.hid (Tw.out.trn tt.trn)
      have FY := Lib.hid (fa_turn FX.out tt B.out.size)
      replace B := Lib.hid (Trn.below B.out B.out.size tt.trn (fun i hi f => by have := FX.out i f; omega))
      clear FX
      have FX := FY
      clear FY tt
      clear c1 c2
      have c1 := BoxO.x1 BX.out
      go_wp2_with fail
      have C := ilabels_ok W6 x bl bn ρ1 (E) key X.out
      rw [HLW.out] at C
      refine C.mono ?_
      clear C
      rintro e W7 ⟨a_l, c_l, rfl, t, br⟩
      have Tl := Lib.hid t
      clear t
      replace X := Lib.hid (X.out.keep br)
      replace BX := Lib.hid (BoxO.keep BX.out br)
      replace LL := Lib.hid (LL.out.keep br)
      replace Tw := Lib.hid (Tw.out.keep br)
      replace B := Lib.hid (B.out.trans (br.mono B.out.size))
      clear br
      rw [HNW.out]
      have Tl2 := Tl.out
      rw [HNW.out] at Tl2
      replace Tl := Lib.hid Tl2
      clear Tl2
      clear c1
      have c1 := BoxO.x1 BX.out
      have c2 := BoxO.x2 BX.out
      go_wp2_with fail
      have HK := Lib.hid (key_any key W7)
      by_cases hk : keyB key
      · rw [decide_eq_true hk] at HK
        have HR := Lib.hid (right9_any ao no1 co l W7 LL.out)
        rw [decide_eq_false (fun h => HOK.out ⟨hk, h⟩)] at HR
        clear hk
        refine HK.out.mono ?_
        clear HK
        rintro e w' ⟨rfl, rfl⟩
        go_wp2_with fail
        refine HR.out.mono ?_
        clear HR
        rintro e U1 ⟨rfl, br⟩
        replace X := Lib.hid (X.out.keep br)
        replace BX := Lib.hid (BoxO.keep BX.out br)
        replace LL := Lib.hid (LL.out.keep br)
        replace Tw := Lib.hid (Tw.out.keep br)
        replace Tl := Lib.hid (Tl.out.keep br)
        replace B := Lib.hid (B.out.trans (br.mono B.out.size))
        clear br
        go_wp2_with fail
        have C := same9_any a_l nw c_l lw a_w nw c_w lw U1 Tl.out Tw.out
        rw [decide_eq_true rfl] at C
        refine C.mono ?_
        clear C
        rintro e V1 ⟨rfl, hd⟩
        have br := hd.bel
        clear hd
        clear Tl Tw
        replace X := Lib.hid (X.out.keep br)
        replace BX := Lib.hid (BoxO.keep BX.out br)
        replace LL := Lib.hid (LL.out.keep br)
        replace B := Lib.hid (B.out.trans (br.mono B.out.size))
        clear br
        go_wp2_with fail
        have C := isize_ok V1 x bl bn ρ1 (E) X.out (by have := E40.out; omega)
        rw [HSZ.out] at C
        refine C.mono ?_
        clear C
        rintro e W9 ⟨rfl, br⟩
        replace X := Lib.hid (X.out.keep br)
        replace BX := Lib.hid (BoxO.keep BX.out br)
        replace LL := Lib.hid (LL.out.keep br)
        replace B := Lib.hid (B.out.trans (br.mono B.out.size))
        clear br
        go_wp2_with fail
        refine (iknown_any _).mono ?_
        rintro e w9 ⟨rfl, b9⟩
        go_wp2
        go_ret
        exact ⟨rfl, B.out.trans (b9.mono B.out.size)⟩
      · rw [decide_eq_false hk] at HK
        clear hk
        refine HK.out.mono ?_
        clear HK
        rintro e w' ⟨rfl, rfl⟩
        go_wp2_with fail
        have C := same9_any a_l nw c_l lw a_w nw c_w lw W7 Tl.out Tw.out
        rw [decide_eq_true rfl] at C
        refine C.mono ?_
        clear C
        rintro e V1 ⟨rfl, hd⟩
        have br := hd.bel
        clear hd
        clear Tl Tw
        replace X := Lib.hid (X.out.keep br)
        replace BX := Lib.hid (BoxO.keep BX.out br)
        replace LL := Lib.hid (LL.out.keep br)
        replace B := Lib.hid (B.out.trans (br.mono B.out.size))
        clear br
        go_wp2_with fail
        have C := isize_ok V1 x bl bn ρ1 (E) X.out (by have := E40.out; omega)
        rw [HSZ.out] at C
        refine C.mono ?_
        clear C
        rintro e W9 ⟨rfl, br⟩
        replace X := Lib.hid (X.out.keep br)
        replace BX := Lib.hid (BoxO.keep BX.out br)
        replace LL := Lib.hid (LL.out.keep br)
        replace B := Lib.hid (B.out.trans (br.mono B.out.size))
        clear br
        go_wp2_with fail
        refine (iknown_any _).mono ?_
        rintro e w9 ⟨rfl, b9⟩
        go_wp2
        go_ret
        exact ⟨rfl, B.out.trans (b9.mono B.out.size)⟩
  · rw [decide_eq_false hlt] at HLT
    go_wp2_with fail
    refine HLT.out.mono ?_
    rintro e W3 ⟨rfl, br⟩
    replace B := Lib.hid (B.out.trans (br.mono B.out.size))
    clear br
    go_wp2_with fail
    refine (iknown_any _).mono ?_
    rintro e w9 ⟨rfl, b9⟩
    go_wp2
    go_ret
    exact ⟨rfl, B.out.trans (b9.mono B.out.size)⟩

set_option maxRecDepth 100000 in
theorem lifted (os : Os) (started : os.Started) (H : Type) (enc : TypeId × Value → H) :
    ReturnsInHanded {} Try.checked os 5 .any (Rows.indexLastSpec.pre6 enc Try.prog Try.f5 Rows.indexLastRow.domain false) (Rows.indexLastSpec.post enc Try.prog Try.f5 false true false false) := by
  refine returnsInHanded_of_change (C := Try.checked) own started (by kernel_rfl) Try.func5
    (ChangeSpec.witness6 (enc := enc) (C := Try.checked) false ⟨#[], #[.slice none 0 0, .agg #[.int .i64 0, .string ByteArray.empty, .slice none 0 0]], []⟩ 8 (by kernel_rfl) (by kernel_rfl) (by kernel_rfl) (by kernel_rfl)) ?_
  intro W base args ds gs before hval0 hW hcnd _
  have hval : ∀ (j : Nat) t v, Try.f5.params[j]? = some t → args[j]? = some v → Value.okWide Try.prog W .any base t v := hval0
  have hW' := hW
  obtain ⟨p, q, hA0, hV, rfl, hfz, hnd⟩ := hW
  have hA : DataW.TrodAll enc Try.prog W 0 (fun _ => true) true Try.f5.params.toList args.toList ds p := hA0
  rw [Try.params5] at hA hval
  obtain ⟨v0, vs0, d0, ds0, p0, q0, hargs, rfl, rfl, h0, r0⟩ := trodAll_cons hA
  obtain ⟨v1, vs1, d1, ds1, p1, q1, rfl, rfl, rfl, h1, r1⟩ := trodAll_cons r0
  obtain ⟨rfl, rfl, rfl⟩ := trodAll_nil r1
  obtain rfl : args = #[v0, v1] := by cases args; simp_all
  obtain ⟨rfl, rfl⟩ := trodVars_none hV
  obtain ⟨a0, len0, cap0, rfl⟩ := okWide_slice Try.underlying22 (hval 0 22 v0 rfl rfl)
  have k0 := h0
  have lt0 : ∀ x ∈ p0, x.block < W.heap.size := by obtain ⟨m, hm⟩ := k0; exact DataW.trod_lt m _ _ _ hm
  obtain ⟨z0, w0⟩ := open_ops9 h0
  have k1 := h1
  have lt1 : ∀ x ∈ p1, x.block < W.heap.size := by obtain ⟨m, hm⟩ := k1; exact DataW.trod_lt m _ _ _ hm
  obtain ⟨a1, qa1, qn1, qc1, rfl, w1⟩ := open_op9 (hval 1 34 v1 rfl rfl) h1
  clear hA0 hval0
  refine (walk a0 len0 cap0 z0 a1 qa1 qn1 qc1 W w0 w1).mono fun e W' ⟨he, bel⟩ => ?_
  subst he
  exact ⟨_, rfl, _, _, _, [], _, [], hW', trodAll_mk1 (shut_bool Try.underlying4 _), (trodAll_cons_mk (Below.trod laidOut (by kernel_rfl) (of_decide_eq_true (by kernel_rfl)) k0 bel lt0) (trodAll_cons_mk (Below.trod laidOut (by kernel_rfl) (of_decide_eq_true (by kernel_rfl)) k1 bel lt1) trodAll_mk0)), rfl, bel.frame _, fun h => by cases h⟩

theorem over : Rows.indexLastRow.holds Try.pinned (OpenSpec.ofChange Rows.indexLastSpec) :=
  OpenClaim.holds_of_wide 5 Try.f5 rfl rfl rfl rfl rfl rfl rfl ⟨rfl, rfl, rfl, rfl, rfl⟩ rfl rfl rfl rfl rfl (by kernel_rfl) Try.func5 (by kernel_rfl)
    (of_decide_eq_true (by kernel_rfl)) (by unfold Func.isWrapper; first | (rw [if_pos (by decide +kernel)]; kernel_rfl) | (rw [if_neg (by decide +kernel)]; exact ⟨rfl, rfl⟩))
    (fun os started H enc _ => lifted os started H enc)

theorem proved : Rows.IndexLastSaid := over
end indexLast
theorem indexLast_holds : Rows.IndexLastSaid := indexLast.proved
#print axioms indexLast_holds
end Go.Proofs.Ytpkbkemenfdadaa
