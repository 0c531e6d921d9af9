/-
  Contracts.
-/
import Derived.Test.YtmifpfojhlmbkaaGreatJ11
import Derived.Test.YtmifpfojhlmbkaaGreatJ13
import Derived.Lib.AppendZerosOnto
namespace Go.Proofs.YtmifpfojhlmbkaaGreat
open Lib (hid)
set_option maxRecDepth 100000
set_option maxHeartbeats 16000000
open Go.RowKit
set_option linter.unusedVariables false
set_option linter.unusedSimpArgs false
theorem info_ptr : (Tryz.prog.info? 119).map (fun i => (i.zero, i.size, i.bytes)) = some (some (.pointer none), 1, 8) := by kernel_rfl
theorem Ptrs.src {w : World} {a : Option Addr} {len cap : Nat} {bs : List Nat} (h : Ptrs w a len cap bs) (ad : Addr) (e : a = some ad) : ∀ j u, (bs.map ptr)[j]? = some u → w.cell? (ad.add j) = some u := by
  intro j u hj
  rw [List.getElem?_map] at hj
  cases hb : bs[j]? with
  | none => rw [hb] at hj; cases hj
  | some q =>
    rw [hb] at hj
    obtain ⟨hlt, hq⟩ := List.getElem?_eq_some_iff.1 hb
    obtain ⟨b, off, e', _, hc⟩ := h.at_ j (by rw [← h.1]; exact hlt)
    rw [e] at e'
    simp only [Option.some.injEq] at e'
    subst e'
    rw [show Addr.add ⟨b, off, none⟩ j = ⟨b, off + j, none⟩ from by simp [Addr.add], hc]
    rw [List.getD_eq_getElem?_getD, hb]
    exact hj
theorem Ptrs.one (w : World) (b : Nat) : Ptrs (w.alloc (.cells #[ptr b] 119)) (some ⟨w.heap.size, 0, none⟩) 1 1 [b] :=
  ⟨rfl, Nat.le_refl _, by omega, .inr ⟨w.heap.size, 0, #[ptr b], (0, 0), rfl, heap_new w _, fun i hi => by simp at hi; subst hi; rfl⟩⟩
theorem wpList_append_ptrs {w : World} {ops : Array Oper} {rest : List Oper} {o : Oper} {a : Act} {Q : Exit → Act → World → Prop} (hw : Region.wanted o (yielded ops a.tmps) = true) (s x : Operand)
    (ho : o.op = .call { callee := .builtin .append, args := #[s, x], argTypes := #[116, 116] })
    (base : Nat) (v : Value) (bs : List Nat) (hs : a.eval s = v) (hown : PRow w base v bs)
    (ax : Option Addr) (m c : Nat) (cs : List Nat) (hx : a.eval x = .slice ax m c) (hl : Ptrs w ax m c cs) (hb : bs.length + m ≤ 1048576) (hbase : base ≤ w.heap.size)
    (h : ∀ v' w', PRow w' base v' (bs ++ cs) → w.grownBy w' v.ownBlock → wpList Tryz.prog ops Q rest (a.put o.dst v') w') : wpList Tryz.prog ops Q (o :: rest) a w := by
  obtain ⟨i0, hi, hz0, hz1, hz2⟩ := info_parts info_ptr
  refine wpList_step fun K hK => ?_
  rw [if_pos hw]
  have hm := hl.len
  cases ax with
  | none =>
    have h0 : m = 0 := by
      rcases hl.2.2.2 with e | ⟨b, off, _, _, e, _⟩
      · exact e
      · cases e
    subst h0
    have e0 : cs = [] := List.eq_nil_of_length_eq_zero hm
    subst e0
    have hrun := run_append_nothing (P := Tryz.prog) (w := w) base 116 o.type 119 i0 1 c Tryz.underlying116 hi v bs.length _ hown
    unfold Oper.wp
    simp [execOp, ho, resolve, invoke, builtin, hs, hx, hrun, Result.andThen]
    refine hK _ _ (h v w ?_ (gb_refl _ _))
    simpa using hown
  | some ad =>
    refine wp_append_own w s x 116 ho base 119 i0 _ 1 8 Tryz.underlying116 hi hz0 hz1 hz2 rfl (by omega) v bs.length _ hs hown ad m c (cs.map ptr) hx (by rw [List.length_map, hm]; omega) (hl.src ad rfl) (by intro u hu; obtain ⟨q, _, rfl⟩ := List.mem_map.1 hu; rfl) (by unfold maxLen; omega) (by omega) hbase ?_
    intro v' w' h2 h3 _
    refine hK _ _ (h v' w' ?_ h3)
    unfold PRow
    rw [List.length_append, List.map_append, hm]; exact h2
theorem Chs.app_keep {w w' : World} {sz : Int} {L : List (Nat × List (Int × Int))} {base : Nat} {v : Value} {bs : List Nat} (h : Chs w sz L) (hown : PRow w base v bs) (g : w.grownBy w' v.ownBlock) : Chs w' sz L :=
  h.keepP g fun r hr => (hown.own r hr).2
theorem PRow.bel {w w' w0 : World} {B base : Nat} {v : Value} {bs : List Nat} (hb : Below B w0 w) (hs : B ≤ w.heap.size) (hown : PRow w base v bs) (hB : B ≤ base) (g : w.grownBy w' v.ownBlock) : Below B w0 w' :=
  hb.grown g hs (fun k hk => Nat.le_trans hB (hown.own k hk).1)
theorem PRow.gb {w w' w0 : World} {r : Nat} {base : Nat} {v : Value} {bs : List Nat} (hb : w0.grownBy w (some r)) (hown : PRow w base v bs) (hB : w0.heap.size ≤ base) (g : w.grownBy w' v.ownBlock) : w0.grownBy w' (some r) :=
  ⟨g.os.trans hb.os, g.tape.trans hb.tape, g.output.trans hb.output, Nat.le_trans hb.size g.size, fun k hk hr => (g.block k (Nat.lt_of_lt_of_le hk hb.size) (fun e => by have := (hown.own k e.symm).1; omega)).trans (hb.block k hk hr)⟩
def MadeP (sz : Int) (z : List (Int × Int)) (w : World) (e : Ending) (w' : World) : Prop := ∃ o, e = .returned (.pointer (some ⟨o, 0, none⟩)) ∧ w.heap.size ≤ o ∧ PCk w' o sz z ∧ Below w.heap.size w w'
theorem put_alone {sz : Int} (hs : 128 ≤ sz) (T V : Int) (h0 : 0 ≤ T) (h1 : T < 1099511627776) : putL sz [] T V 0 = (0, [(T, V)]) :=
  putL_took sz [] T V 0 V [(T, V)] (by omega) (by simp [newV, bef, upt, cnt]) (by simp [insL, bef, upt, cnt]) (by simp; omega)
theorem alone_any (sz T V : Int) (w : World) (hs : 128 ≤ sz) (hs2 : sz ≤ 4096) (h0 : 0 ≤ T) (h1 : T < 1099511627776) (hV : in64 V) :
    Calls Tryz.prog 229 #[.int .i64 sz, .agg #[.int .i64 T, .int .i64 V]] w (MadeP sz [(T, V)] w) := by
  have B0 := (Below.refl w.heap.size w).alloc (Nat.le_refl _) (.cells #[.int .i64 T, .int .i64 V] 27)
  have hn := heap_new w (.cells #[.int .i64 T, .int .i64 V] 27)
  have s0 : (w.alloc (.cells #[.int .i64 T, .int .i64 V] 27)).heap.size = w.heap.size + 1 := by simp
  go_enter Tryz.func229, Tryz.ntmps229
  go_wp2_with fail
  generalize w.alloc (.cells #[.int .i64 T, .int .i64 V] 27) = W0 at *
  refine (cnew_at sz W0 hs hs2).mono ?_
  rintro e W1 ⟨rfl, p1, b1', s1⟩
  have c0 : W1.cell? ⟨w.heap.size, 0, none⟩ = some (.int .i64 T) := by rw [b1'.cell (by simp; omega), cell_of hn]; rfl
  have c1 : W1.cell? ⟨w.heap.size, 1, none⟩ = some (.int .i64 V) := by rw [b1'.cell (by simp; omega), cell_of hn]; rfl
  have b1 := B0.trans (b1'.mono (by omega))
  rw [s0] at p1 s1 ⊢
  clear B0 b1' hn s0
  obtain ⟨q, hq⟩ : ∃ q, w.heap.size + 1 = q := ⟨_, rfl⟩
  rw [hq] at p1 ⊢
  have HQ := hid hq
  clear hq
  go_wp2_with fail
  refine (put_at q sz [] T V 0 0 [(T, V)] _ (put_alone hs T V h0 h1) p1 (by omega) hs2 rising_nil (by simp) ⟨by omega, by omega⟩ hV).mono ?_
  rintro e W2 ⟨rfl, p2, g2⟩
  have B2 := bel_gb b1 b1.size (by have := HQ.out; omega) g2
  clear b1 g2 p1 s1 c0 c1
  go_wp2
  go_ret
  exact ⟨q, rfl, by have := HQ.out; omega, p2, B2⟩
theorem isSmall_any (b : Nat) (sz : Int) (z : List (Int × Int)) (w : World) (h : PCk w b sz z) (hs : 1 ≤ sz) (hz : z.length ≤ 1048576) :
    Calls Tryz.prog 268 #[.pointer (some ⟨b, 0, none⟩)] w (BoolP (decide (Small sz z)) w) := by
  have HK := hid h
  have hu : usedL z ≤ 17825792 := by have := bitsZ_le z; unfold usedL; omega
  have HD : Hid (∀ r : Bool, (r = true ↔ 4 * (usedL z : Int) < sz) → r = decide (Small sz z)) := hid (fun r hr => by
    cases r with
    | true => exact (decide_eq_true (hr.1 rfl)).symm
    | false => exact (decide_eq_false (fun e => by have := hr.2 e; cases this)).symm)
  clear h
  go_enter Tryz.func268, Tryz.ntmps268
  go_wp2_with fail
  refine (used_ok b sz z _ HK.out hs hz).mono ?_
  rintro e W1 ⟨rfl, b1⟩
  have k1 := CAt.keepB HK.out b1
  generalize usedL z = u at *
  go_wp2_with fail
  refine (size_ok b sz z _ k1).mono ?_
  rintro e W2 ⟨rfl, rfl⟩
  clear k1 HK
  go_wp2
  go_ret
  exact ⟨ret_bool (HD.out _ (by simp)), b1⟩
theorem joined_any (b c : Nat) (sz : Int) (x y : List (Int × Int)) (w : World) (hx : PCk w b sz x) (hy : PCk w c sz y) (hs : 128 ≤ sz) (hs2 : sz ≤ 4096) (hn : x.length + y.length ≤ 1048576) (hr : Rising (x ++ y)) (hf : Fit sz (x ++ y)) :
    Calls Tryz.prog 269 #[.pointer (some ⟨b, 0, none⟩), .pointer (some ⟨c, 0, none⟩)] w (MadeP sz (x ++ y) w) := by
  have HX := hid hx
  have HY := hid hy
  have hm : meetB x y = false := by
    cases h : meetB x y with
    | false => rfl
    | true =>
      exfalso
      obtain ⟨h1, h2, h3⟩ := (meetB_iff x y).1 h
      obtain ⟨a, ha, ea⟩ := tOf_mem (z := x) (i := x.length - 1) (by omega)
      obtain ⟨b, hb, eb⟩ := tOf_mem (z := y) (i := 0) h2
      have := rising_cross hr a ha b hb
      omega
  have hE : joinE sz x y = 0 := by
    unfold joinE tookE
    unfold Fit at hf
    rw [hm, if_neg (by simp), if_neg (by omega)]
  have HL := hid (show joinL sz x y = x ++ y from by unfold joinL; rw [if_pos hE])
  clear hx hy
  go_enter Tryz.func269, Tryz.ntmps269
  go_wp2_with fail
  refine (copy_ok b sz x _ HX.out (by omega) (by omega)).mono ?_
  rintro e W1 ⟨o1, rfl, s1, p1, b1⟩
  have y1 := CAt.keepB HY.out b1
  go_wp2_with fail
  refine (copy_ok c sz y _ y1 (by omega) (by omega)).mono ?_
  rintro e W2 ⟨o2, rfl, s2, p2, b2⟩
  have p3 := CAt.keepB p1 b2
  have hne : o1 ≠ o2 := by have := p1.lt; omega
  have B2 := b1.trans (b2.mono b1.size)
  have hsz := b2.size
  have hsz1 := b1.size
  clear p1 y1 b2 b1
  go_wp2_with fail
  refine (join_ok o1 o2 sz sz x y _ p3 p2 hne (by omega) hs2 (by omega) hn).mono ?_
  rintro e W3 ⟨rfl, p4, p5, t3⟩
  have B3 := bel_two B2 (by omega) s1 (by omega) t3
  rw [HL.out] at p4
  generalize joinE sz x y = je at *
  clear p5 t3 B2 p2 p3
  go_wp2
  go_ret
  exact ⟨o1, rfl, s1, p4, B3⟩
theorem PRow.set {w : World} {base g cap : Nat} {bs : List Nat} {q : Nat} (h : PRow w base (.slice (some ⟨g, 0, none⟩) (bs.length + 1) cap) (bs ++ [q])) (o : Nat) : PRow (w.setCell ⟨g, bs.length, none⟩ (ptr o)) base (.slice (some ⟨g, 0, none⟩) (bs.length + 1) cap) (bs ++ [o]) := by
  rcases h.2 with ⟨e, _⟩ | ⟨g', cap', cur, e, hb, hg, hle, hmx, hsz, htk⟩
  · cases e
  · simp only [Value.slice.injEq, Option.some.injEq, Addr.mk.injEq, and_true, true_and] at e
    obtain ⟨rfl, _, rfl⟩ := e
    have hlt : bs.length < cur.size := by simp at hle; omega
    refine ⟨by simp, .inr ⟨g, cap, cur.setIfInBounds bs.length (ptr o), by simp, hb, heap_set hg, by simpa using hle, hmx, by simpa using hsz, ?_⟩⟩
    have h0 : cur.toList.take bs.length = bs.map ptr := by
      have := congrArg (List.take bs.length) htk
      rw [List.take_take] at this
      simpa using this
    have e2 : (cur.setIfInBounds bs.length (ptr o)).toList.take ((bs ++ [o]).length * 1) = cur.toList.take bs.length ++ [ptr o] := by
      rw [show (bs ++ [o]).length * 1 = bs.length + 1 from by simp]
      rw [Array.toList_setIfInBounds, List.take_succ_eq_append_getElem (by simpa using hlt)]
      congr 1
      · rw [List.take_set_of_le (Nat.le_refl _)]
      · simp
    rw [e2, h0]; simp
def ArrP (sz : Int) (Z : List (List (Int × Int))) (w : World) (e : Ending) (w' : World) : Prop :=
  ∃ v M, e = .returned v ∧ PRow w' w.heap.size v (bl M) ∧ Chs w' sz M ∧ zs M = Z ∧ Below w.heap.size w w'
theorem arranged_any (a : Option Addr) (len cap : Nat) (L : List (Nat × List (Int × Int))) (sz : Int) (w : World) (hp : Ptrs w a len cap (bl L)) (hc : Chs w sz L) (hs : 128 ≤ sz) (hs2 : sz ≤ 4096) (hn : (zs L).flatten.length ≤ 1048576) (hr : Rising (zs L).flatten) (hlen : len ≤ 524288) :
    Calls Tryz.prog 215 #[.slice a len cap] w (ArrP sz (arrL sz (zs L)) w) := by
  have HL := hid (show (zs L).length = len from by rw [zs_len, ← bl_len, hp.1])
  have HP := hid hp
  have HC := hid hc
  have HR := hid hr
  have HSN : Hid (∀ j, j < len → arrL sz ((zs L).take (j + 1)) = arrS sz (arrL sz ((zs L).take j)) ((zs L).getD j [])) := hid (fun j hj => by
    rw [List.take_succ_eq_append_getElem (by rw [HL.out]; exact hj), arrL_snoc, chunk_get (by rw [HL.out]; exact hj)])
  clear hp hc hr
  go_enter Tryz.func215, Tryz.ntmps215
  go_wp2_with fail
  go_loopw [3, 9] (fun v i wr => ∃ (j : Nat) (M : List (Nat × List (Int × Int))), j ≤ len ∧ i = .int .i64 (j : Int) ∧ PRow wr w.heap.size v (bl M) ∧ Chs wr sz M ∧ Hid (zs M = arrL sz ((zs L).take j)) ∧ M.length ≤ j ∧ Below w.heap.size w wr) (fun _ i _ => len - (intOf i).toNat)
  case atStart => exact ⟨0, [], Nat.zero_le _, rfl, PRow.nil _ _, (fun x hx => by cases hx), hid rfl, by simp, Below.refl _ _⟩
  case round =>
    obtain ⟨j, M, hj, rfl, rM, cM, HZ, hml, B2⟩ := hrel
    have s2 := B2.size
    by_cases hjl : j < len
    · obtain ⟨pb, po, rfl, hpb, x0⟩ := HP.out.at_ j hjl
      unfold ptr at x0
      have x0' := (B2.cell (p := ⟨pb, po + j, none⟩) hpb).trans x0
      have hq := (HC.out.keepB (w' := wr) B2).get (i := j) (by rw [← zs_len, HL.out]; exact hjl)
      have HS := hid (HSN.out j hjl)
      have hzl : ((zs L).getD j []).length ≤ 1048576 := Nat.le_trans (flat_len_get _ _) hn
      have HFR := hid (show Rising ((zs M).flatten ++ (zs L).getD j []) from by
        rw [HZ.out, arr_flat, ← take_flat _ _ (by rw [HL.out]; exact hjl)]
        have := HR.out
        rw [← List.take_append_drop (j + 1) (zs L), List.flatten_append] at this
        exact rising_left this)
      have HFL := hid (show ((zs M).flatten ++ (zs L).getD j []).length ≤ 1048576 from by
        rw [HZ.out, arr_flat, ← take_flat _ _ (by rw [HL.out]; exact hjl)]
        have := sumTo_le (zs L) (j + 1)
        unfold sumTo at this
        omega)
      have hj0 : (0 : Int) ≤ (j : Int) := by omega
      have hj1 : (j : Int) < (len : Int) := by omega
      generalize (bl L).getD j 0 = q at *
      generalize (zs L).getD j [] = z at *
      have HQ := hid hq
      clear x0 hq
      obtain ⟨av, cv, rfl, PM⟩ := rM.shape
      rw [bl_len] at PM rM ⊢
      by_cases hz : z.length = 0
      · have HE := hid (show zs M = arrL sz ((zs L).take (j + 1)) from by rw [HS.out]; unfold arrS; rw [if_pos hz]; exact HZ.out)
        go_wp2_with fail
        refine (len_ok q sz z _ HQ.out (by omega)).mono ?_
        rintro e W3 ⟨rfl, rfl⟩
        rw [hz]
        go_wp2
        go_roundw
        case rel => exact ⟨j + 1, M, by omega, by go_num, rM, cM, HE, by omega, B2⟩
        case measure => simp [intOf]; omega
      · have hz0 : ((z.length : Int) == 0) = false := by rw [beq_eq_false_iff_ne]; omega
        rcases List.eq_nil_or_concat M with hM | ⟨M', x, hM⟩
        · subst hM
          go_wp2_with fail
          refine (len_ok q sz z _ HQ.out (by omega)).mono ?_
          rintro e W3 ⟨rfl, rfl⟩
          have HE := hid (show zs ([] ++ [(q, z)]) = arrL sz ((zs L).take (j + 1)) from by rw [HS.out, ← HZ.out]; unfold arrS; rw [if_neg hz, if_neg (by simp [zs])]; simp [zs])
          obtain ⟨zl, hzl'⟩ : ∃ zl, z.length = zl := ⟨_, rfl⟩
          rw [hzl'] at hz0 ⊢
          clear hzl'
          have P8 := Ptrs.one wr q
          have r8 := rM.keepN (World.grownBy_alloc wr (.cells #[ptr q] 119) none)
          have ch8 := (cM.app (Chs.one HQ.out)).keepN (World.grownBy_alloc wr (.cells #[ptr q] 119) none)
          have B8 := B2.alloc s2 (.cells #[ptr q] 119)
          have s8 : w.heap.size ≤ (wr.alloc (.cells #[ptr q] 119)).heap.size := by have := s2; simp; omega
          have hlen8 : (bl ([] : List (Nat × List (Int × Int)))).length + 1 ≤ 1048576 := by rw [bl_len]; omega
          unfold ptr at P8 r8 ch8 B8 s8
          go_wp2_with (at_builtin; (refine wpList_append_ptrs ?_ (.tmp 16) (.tmp 18) rfl w.heap.size _ (bl ([] : List (Nat × List (Int × Int)))) rfl r8 _ 1 1 [q] rfl P8 hlen8 s8 ?_))
          intro v9 W9 r9 g9
          have ch9 := ch8.app_keep r8 g9
          have B9 := r8.bel B8 s8 (Nat.le_refl _) g9
          have HR9 := hid r9
          have HC9 := hid ch9
          clear P8 r8 ch8 B8 g9 r9 ch9
          go_wp2
          go_roundw
          case rel => exact ⟨j + 1, ([] : List (Nat × List (Int × Int))) ++ [(q, z)], by omega, by go_num, by rw [bl_app]; exact HR9.out, HC9.out, HE, (by simp at hml ⊢; try omega), B9⟩
          case measure => simp [intOf]; omega
        · rw [List.concat_eq_append] at hM
          obtain ⟨ql, zl⟩ := x
          subst hM
          have HKL := hid (show PCk wr ql sz zl from cM (ql, zl) (by simp))
          have HLO := hid (show lastOf (zs (M' ++ [(ql, zl)])) = zl from by simp [zs, lastOf])
          have HDL := hid (show (zs (M' ++ [(ql, zl)])).dropLast = zs M' from by simp [zs])
          have hzll : zl.length + z.length ≤ 1048576 := by
            have := HFL.out
            rw [zs_app, List.flatten_append] at this
            simp [zs] at this
            omega
          have HRL := hid (show Rising (zl ++ z) from by
            have := HFR.out
            rw [zs_app, List.flatten_append, List.append_assoc] at this
            have := rising_right this
            simpa [zs] using this)
          rw [show (M' ++ [(ql, zl)]).length = M'.length + 1 from by simp] at PM rM ⊢
          obtain ⟨gb, go, rfl, hgb, y0⟩ := PM.at_ M'.length (by omega)
          rw [show (bl (M' ++ [(ql, zl)])).getD M'.length 0 = ql from by rw [bl_get (by simp)]; simp] at y0
          unfold ptr at y0
          have hml' : M'.length + 1 ≤ j := by simpa using hml
          have hMi : ((M'.length : Int) + 1 - 1) = (M'.length : Int) := by omega
          have HMI := hid hMi
          clear hMi
          generalize hm' : M'.length = m at *
          go_wp2_with fail
          refine (len_ok q sz z _ HQ.out (by omega)).mono ?_
          rintro e W3 ⟨rfl, rfl⟩
          obtain rfl : go = 0 := by
            rcases rM.2 with ⟨e, _⟩ | ⟨g', c', cu, e, _⟩
            · cases e
            · simp at e; exact e.1.2
          rw [Nat.zero_add] at y0
          have hm0 : (0 : Int) ≤ (m : Int) := by omega
          have hm1 : (m : Int) < (m : Int) + 1 := by omega
          by_cases hsl : Small sz zl
          · go_wp2_with fail
            refine (isSmall_any ql sz zl _ HKL.out (by omega) (by omega)).mono ?_
            rintro e W4 ⟨rfl, b4⟩
            rw [decide_eq_true hsl]
            have HQ4 := hid (show PCk W4 q sz z from CAt.keepB HQ.out b4)
            by_cases hsc : Small sz z
            · go_wp2_with fail
              refine (isSmall_any q sz z _ HQ4.out (by omega) (by omega)).mono ?_
              rintro e W5 ⟨rfl, b5⟩
              rw [decide_eq_true hsc]
              have b45 : Below wr.heap.size wr W5 := b4.trans (b5.mono b4.size)
              have B5 := B2.trans (b45.mono s2)
              have r5 := rM.keepB b45
              have c5 := cM.keepB b45
              have L5D : Hid (PCk W5 ql sz zl) := hid (show PCk W5 ql sz zl from CAt.keepB HKL.out b45)
              have Q5D : Hid (PCk W5 q sz z) := hid (show PCk W5 q sz z from CAt.keepB HQ4.out b5)
              have s5 := B5.size
              have HE := hid (show zs M' ++ [zl ++ z] = arrL sz ((zs L).take (j + 1)) from by
                rw [HS.out, ← HZ.out]; unfold arrS
                rw [if_neg hz, if_pos ⟨by simp [zs], by rw [HLO.out]; exact hsl, hsc⟩, HDL.out, HLO.out])
              have HFJ := hid (small_join hs hsl hsc)
              obtain ⟨cur5, hg5⟩ : ∃ cur, W5.heap[gb]? = some (.cells cur 119 (0, 0)) := by
                rcases r5.2 with ⟨e, _⟩ | ⟨g', c', cu, e, _, hg, _⟩
                · cases e
                · simp at e; obtain ⟨rfl, _⟩ := e; exact ⟨cu, hg⟩
              have hgb5 := heap_lt hg5
              have y5 : W5.cell? ⟨gb, m, none⟩ = some (.pointer (some ⟨ql, 0, none⟩)) := (b45.cell (p := ⟨gb, m, none⟩) hgb).trans y0
              have f5 := frozen_of (o := m) hg5
              clear b45 rM cM HKL HQ HQ4 b4 b5 B2 y0 x0' PM
              go_wp2_with fail
              refine (joined_any ql q sz zl z _ L5D.out Q5D.out hs hs2 hzll HRL.out HFJ.out).mono ?_
              rintro e W6 ⟨o6, rfl, ho6, p6, b6⟩
              have c6 : W6.cell? ⟨gb, m, none⟩ = some (.pointer (some ⟨ql, 0, none⟩)) := (b6.cell (p := ⟨gb, m, none⟩) hgb5).trans y5
              have f6 : W6.frozen? ⟨gb, m, none⟩ = false := (b6.frozen (p := ⟨gb, m, none⟩) hgb5).trans f5
              have b6' : Below W5.heap.size W5 W6 := b6
              have r6 := r5.keepB b6'
              have ch6 := c5.keepB b6'
              have B6 := B5.trans (b6'.mono s5)
              have hgbase : w.heap.size ≤ gb := (r6.own gb rfl).1
              have hns6 := (r6.own gb rfl).2.1
              have hpt6 := (r6.own gb rfl).2.2
              rw [bl_app] at r6
              have hblm : (bl M').length = m := by rw [bl_len]; exact hm'
              have r7 : PRow (W6.setCell ⟨gb, m, none⟩ (ptr o6)) w.heap.size (.slice (some ⟨gb, 0, none⟩) (m + 1) cv) (bl M' ++ [o6]) := by
                rw [← hblm] at r6 ⊢
                exact PRow.set r6 o6
              have g7 : W6.grownBy (W6.setCell ⟨gb, m, none⟩ (ptr o6)) (some gb) := gb_set (gb_refl _ _) _ _
              have ch7 : Chs (W6.setCell ⟨gb, m, none⟩ (ptr o6)) sz (M' ++ [(o6, zl ++ z)]) :=
                ((ch6.sub (M := M') (fun x hx => by simp [hx])).app (Chs.one p6)).keepP g7 (fun r hr => by cases hr; exact ⟨hns6, hpt6⟩)
              have B7 : Below w.heap.size w (W6.setCell ⟨gb, m, none⟩ (ptr o6)) := bel_gb B6 B6.size hgbase g7
              have HR7 := hid r7
              have HC7 := hid ch7
              have HB7 := hid B7
              clear r5 c5 r6 ch6 r7 ch7 g7 B6 B7 b6 b6' y5 f5 hg5 p6 L5D Q5D B5
              unfold ptr at HR7 HC7 HB7
              go_wp2
              go_roundw
              case rel => exact ⟨j + 1, M' ++ [(o6, zl ++ z)], by omega, by go_num, by rw [bl_app]; exact HR7.out, HC7.out, hid (by rw [zs_app]; exact HE.out), (by simp; omega), HB7.out⟩
              case measure => simp [intOf]; omega
            · go_wp2_with fail
              refine (isSmall_any q sz z _ HQ4.out (by omega) (by omega)).mono ?_
              rintro e W5 ⟨rfl, b5⟩
              rw [decide_eq_false hsc]
              have b45 : Below wr.heap.size wr W5 := b4.trans (b5.mono b4.size)
              have B5 := B2.trans (b45.mono s2)
              have r5 := rM.keepB b45
              have c5 := cM.keepB b45
              have q5 := CAt.keepB HQ4.out b5
              have s5 := B5.size
              have HE := hid (show zs (M' ++ [(ql, zl)] ++ [(q, z)]) = arrL sz ((zs L).take (j + 1)) from by
                rw [HS.out, ← HZ.out]; unfold arrS
                rw [if_neg hz, if_neg (fun h => hsc h.2.2), zs_app (M' ++ [(ql, zl)])]; simp [zs])
              clear b45 rM cM HKL HQ HQ4 b4 b5 B2 y0 x0' PM
              have P8 := Ptrs.one W5 q
              have r8 := r5.keepN (World.grownBy_alloc W5 (.cells #[ptr q] 119) none)
              have ch8 := (c5.app (Chs.one q5)).keepN (World.grownBy_alloc W5 (.cells #[ptr q] 119) none)
              have B8 := B5.alloc s5 (.cells #[ptr q] 119)
              have s8 : w.heap.size ≤ (W5.alloc (.cells #[ptr q] 119)).heap.size := by have := s5; simp; omega
              have hlen8 : (bl (M' ++ [(ql, zl)])).length + 1 ≤ 1048576 := by rw [bl_len]; simp; omega
              unfold ptr at P8 r8 ch8 B8 s8
              go_wp2_with (at_builtin; (refine wpList_append_ptrs ?_ (.tmp 16) (.tmp 18) rfl w.heap.size _ (bl (M' ++ [(ql, zl)])) rfl r8 _ 1 1 [q] rfl P8 hlen8 s8 ?_))
              intro v9 W9 r9 g9
              have ch9 := ch8.app_keep r8 g9
              have B9 := r8.bel B8 s8 (Nat.le_refl _) g9
              have HR9 := hid r9
              have HC9 := hid ch9
              clear P8 r8 ch8 B8 g9 r9 ch9
              go_wp2
              go_roundw
              case rel => exact ⟨j + 1, (M' ++ [(ql, zl)]) ++ [(q, z)], by omega, by go_num, by rw [bl_app]; exact HR9.out, HC9.out, HE, (by simp; omega), B9⟩
              case measure => simp [intOf]; omega
          · go_wp2_with fail
            refine (isSmall_any ql sz zl _ HKL.out (by omega) (by omega)).mono ?_
            rintro e W4 ⟨rfl, b4⟩
            rw [decide_eq_false hsl]
            have B5 := B2.trans (b4.mono s2)
            have r5 := rM.keepB b4
            have c5 := cM.keepB b4
            have q5 := CAt.keepB HQ.out b4
            have s5 := B5.size
            have HE := hid (show zs (M' ++ [(ql, zl)] ++ [(q, z)]) = arrL sz ((zs L).take (j + 1)) from by
              rw [HS.out, ← HZ.out]; unfold arrS
              rw [if_neg hz, if_neg (fun h => hsl (by rw [HLO.out] at h; exact h.2.1)), zs_app (M' ++ [(ql, zl)])]; simp [zs])
            clear rM cM HKL HQ b4 B2 y0 x0' PM
            have P8 := Ptrs.one W4 q
            have r8 := r5.keepN (World.grownBy_alloc W4 (.cells #[ptr q] 119) none)
            have ch8 := (c5.app (Chs.one q5)).keepN (World.grownBy_alloc W4 (.cells #[ptr q] 119) none)
            have B8 := B5.alloc s5 (.cells #[ptr q] 119)
            have s8 : w.heap.size ≤ (W4.alloc (.cells #[ptr q] 119)).heap.size := by have := s5; simp; omega
            have hlen8 : (bl (M' ++ [(ql, zl)])).length + 1 ≤ 1048576 := by rw [bl_len]; simp; omega
            unfold ptr at P8 r8 ch8 B8 s8
            go_wp2_with (at_builtin; (refine wpList_append_ptrs ?_ (.tmp 16) (.tmp 18) rfl w.heap.size _ (bl (M' ++ [(ql, zl)])) rfl r8 _ 1 1 [q] rfl P8 hlen8 s8 ?_))
            intro v9 W9 r9 g9
            have ch9 := ch8.app_keep r8 g9
            have B9 := r8.bel B8 s8 (Nat.le_refl _) g9
            have HR9 := hid r9
            have HC9 := hid ch9
            clear P8 r8 ch8 B8 g9 r9 ch9
            go_wp2
            go_roundw
            case rel => exact ⟨j + 1, (M' ++ [(ql, zl)]) ++ [(q, z)], by omega, by go_num, by rw [bl_app]; exact HR9.out, HC9.out, HE, (by simp; omega), B9⟩
            case measure => simp [intOf]; omega
    · obtain rfl : len = j := by omega
      have HE := hid (show zs M = arrL sz (zs L) from by rw [HZ.out, ← HL.out, List.take_length])
      go_wp2
      go_ret
      exact ⟨_, M, rfl, rM, cM, HE.out, B2⟩
def RowP (bs : List Nat) (w : World) (e : Ending) (w' : World) : Prop := ∃ v, e = .returned v ∧ PRow w' w.heap.size v bs ∧ Below w.heap.size w w'
theorem grow_any (n : Nat) (w : World) (hn : n ≤ 1048576) :
    Calls Tryz.prog 267 #[.slice none 0 0, .int .i64 (n : Int)] w (RowP [] w) := by
  have h1 : ¬ ((n : Int) < 0) := by omega
  by_cases h0 : n = 0
  · subst h0
    go_enter Tryz.func267, Tryz.ntmps267
    go_wp2
    go_ret
    exact ⟨_, rfl, PRow.nil w _, Below.refl _ _⟩
  · have h4 : (n : Int) > 0 := by omega
    obtain ⟨i0, hi, hz0, hz1, hz2⟩ := info_parts info_ptr
    have hrz : ∀ ty, (Builtin.append_ #[116, 3] ty #[.slice none 0 0, .int .i64 (n : Int)]).run Tryz.prog w =
        .ok (.slice (some ⟨w.heap.size, 0, none⟩) n (grownCap w n 0 119)) (w.drew.alloc (.cells (([] : List Value).toArray ++ Builtin.zeroCells (Value.pointer none).cells n ++ Builtin.zeroCells (Value.pointer none).cells (grownCap w n 0 119 - n)) 119)) := fun ty => by
      have h := Lib.run_append_grow_zeros w 116 3 ty 119 i0 _ .i64 .i64 Tryz.underlying116 Tryz.underlying3 hi hz0 none 0 0 [] (run_firstCells_none w.drew i0.size 0 0 0) n (by omega) (by omega) (by omega) (by omega) (by rw [hz2]; omega) (by rw [hz2]; exact growslice_fits (by omega) (by omega))
      rw [Nat.zero_add] at h
      exact h
    have hGn := grownCap_ge w n 0 119
    have hGm := grownCap_le_maxLen w n 0 119 (by unfold maxLen; omega)
    obtain ⟨G, hG⟩ : ∃ G, grownCap w n 0 119 = G := ⟨_, rfl⟩
    rw [hG] at hrz hGn hGm
    obtain ⟨ROW, hROW⟩ : ∃ ROW : Array Value, ([] : List Value).toArray ++ Builtin.zeroCells (Value.pointer none).cells n ++ Builtin.zeroCells (Value.pointer none).cells (G - n) = ROW := ⟨_, rfl⟩
    have hsz : ROW.size = G * 1 := by
      rw [← hROW]
      simp [Builtin.zeroCells, Value.cells]
      omega
    rw [hROW] at hrz
    have HR := hid (show PRow (w.drew.alloc (.cells ROW 119)) w.heap.size (.slice (some ⟨w.heap.size, 0, none⟩) 0 G) [] from ⟨rfl, .inr ⟨w.heap.size, G, ROW, rfl, Nat.le_refl _, heap_new w.drew _, Nat.zero_le _, hGm, hsz, by simp⟩⟩)
    have HB := hid (show Below w.heap.size w (w.drew.alloc (.cells ROW 119)) from ((Below.refl w.heap.size w).drew).alloc (Nat.le_refl _) _)
    have hG63 : G ≤ 9223372036854775807 := by unfold maxLen at hGm; omega
    clear hG hROW hsz hi hz0 hz1 hz2 hGm
    go_enter Tryz.func267, Tryz.ntmps267
    go_wp2_with (at_builtin; refine Lib.wpList_append_run _ rfl _ _ _ _ rfl _ _ rfl rfl _ _ (hrz _) ?_)
    all_goals go_ret
    exact ⟨_, rfl, HR.out, HB.out⟩
def PParts (w : World) (pb : Nat) (Z : List (List Nat)) (A : Nat → Option Addr) (C : Nat → Nat) : Prop :=
  ∀ i, i < Z.length → w.cell? ⟨pb, i, none⟩ = some (.slice (A i) (Z.getD i []).length (C i)) ∧ Ptrs w (A i) (Z.getD i []).length (C i) (Z.getD i [])
def sumB (Z : List (List Nat)) (i : Nat) : Nat := (Z.take i).flatten.length
theorem take_flatB (Z : List (List Nat)) (i : Nat) (h : i < Z.length) : (Z.take (i + 1)).flatten = (Z.take i).flatten ++ Z.getD i [] := by
  rw [List.take_succ_eq_append_getElem h, List.flatten_append]
  simp [List.getD_eq_getElem?_getD, List.getElem?_eq_getElem h]
theorem sumB_succ (Z : List (List Nat)) (i : Nat) (h : i < Z.length) : sumB Z (i + 1) = sumB Z i + (Z.getD i []).length := by
  unfold sumB; rw [take_flatB Z i h, List.length_append]
theorem sumB_le (Z : List (List Nat)) (i : Nat) : sumB Z i ≤ Z.flatten.length := by
  unfold sumB
  conv => rhs; rw [← List.take_append_drop i Z, List.flatten_append, List.length_append]
  omega
theorem concat_any (pb : Nat) (Z : List (List Nat)) (A : Nat → Option Addr) (C : Nat → Nat) (n : Nat) (w : World) (hn : Z.length = n) (hp : PParts w pb Z A C) (hpb : pb < w.heap.size) (hs : Z.flatten.length ≤ 1048576) (hn8 : n ≤ 8) :
    Calls Tryz.prog 214 #[.slice (some ⟨pb, 0, none⟩) n n] w (RowP Z.flatten w) := by
  have HP := hid hp
  have HN := hid hn
  clear hp hn
  have HALL := hid (show sumB Z Z.length = Z.flatten.length from by unfold sumB; rw [List.take_length])
  rw [HN.out] at HALL
  have HLE := hid (sumB_le Z)
  go_enter Tryz.func214, Tryz.ntmps214
  go_wp2_with fail
  go_loop [3, 11] (fun m i => ∃ j : Nat, j ≤ n ∧ i = .int .i64 (j : Int) ∧ m = .int .i64 (sumB Z j : Int)) (fun _ i => n - (intOf i).toNat)
  case atStart => exact ⟨0, Nat.zero_le _, rfl, by simp [sumB]⟩
  case round =>
    obtain ⟨j, hj, rfl, rfl⟩ := hrel
    by_cases hjn : j < n
    · obtain ⟨c, _⟩ := HP.out j (by rw [HN.out]; exact hjn)
      have HS := hid (sumB_succ Z j (by rw [HN.out]; exact hjn))
      have b1 := HLE.out j
      have b2 := HLE.out (j + 1)
      rw [HS.out] at b2
      generalize (Z.getD j []).length = m at *
      generalize sumB Z j = s at *
      have hneg : ¬ ((s : Int) + (m : Int) < 0) := by omega
      go_wp2
      go_round
      case rel => exact ⟨j + 1, by omega, by go_num, by rw [HS.out]; go_num⟩
      case measure => simp [intOf]; omega
    · obtain rfl : n = j := by omega
      rw [HALL.out]
      obtain ⟨N, hN⟩ : ∃ N, Z.flatten.length = N := ⟨_, rfl⟩
      rw [hN] at hs ⊢
      have HNN := hid hN
      clear hN
      go_wp2_with fail
      refine (grow_any N w hs).mono ?_
      rintro e W1 ⟨v1, rfl, r1, B1⟩
      go_wp2_with fail
      go_loopw [6, 27] (fun v i wr => ∃ j : Nat, j ≤ n ∧ i = .int .i64 (j : Int) ∧ PRow wr w.heap.size v (Z.take j).flatten ∧ Below w.heap.size w wr) (fun _ i _ => n - (intOf i).toNat)
      case atStart => exact ⟨0, Nat.zero_le _, rfl, by simpa using r1, B1⟩
      case round =>
        obtain ⟨j, hj2, rfl, r2, B2⟩ := hrel
        have s2 := B2.size
        by_cases hjn2 : j < n
        · obtain ⟨c, hl⟩ := HP.out j (by rw [HN.out]; exact hjn2)
          rw [← B2.cell hpb] at c
          replace hl := hl.keepB (w' := wr) B2
          have HF := hid (take_flatB Z j (by rw [HN.out]; exact hjn2))
          have b2 : (Z.take j).flatten.length + (Z.getD j []).length ≤ 1048576 := by
            have h1 := HLE.out (j + 1)
            unfold sumB at h1
            rw [HF.out, List.length_append, HNN.out] at h1
            omega
          generalize Z.getD j [] = zj at *
          generalize A j = aj at *
          generalize C j = cj at *
          obtain ⟨m, hm⟩ : ∃ m, zj.length = m := ⟨_, rfl⟩
          rw [hm] at c hl b2
          clear hm
          go_wp2_with (at_builtin; (refine wpList_append_ptrs ?_ (.tmp 31) (.tmp 32) rfl w.heap.size _ (Z.take j).flatten rfl r2 _ m cj zj rfl hl b2 s2 ?_))
          intro v3 W3 r3 g3
          have B3 := r2.bel B2 s2 (Nat.le_refl _) g3
          clear c hl r2 g3 B2
          go_wp2
          go_roundw
          case rel => exact ⟨j + 1, by omega, by go_num, by rw [HF.out]; exact r3, B3⟩
          case measure => simp [intOf]; omega
        · obtain rfl : n = j := by omega
          have HE := hid (show (Z.take n).flatten = Z.flatten from by rw [← HN.out, List.take_length])
          rw [HE.out] at r2
          go_wp2
          go_ret
          exact ⟨_, rfl, r2, B2⟩
end Go.Proofs.YtmifpfojhlmbkaaGreat
