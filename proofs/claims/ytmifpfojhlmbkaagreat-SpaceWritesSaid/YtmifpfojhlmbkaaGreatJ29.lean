/-
  Contracts.
-/
import Derived.Test.YtmifpfojhlmbkaaGreatJ9
import Derived.Test.YtmifpfojhlmbkaaGreatJ27
import Derived.Test.YtmifpfojhlmbkaaGreatJ28
import Derived.BigRegion
import Derived.WalkMore
namespace Go.Proofs.YtmifpfojhlmbkaaGreat
open Lib (hid)
set_option maxRecDepth 100000
set_option maxHeartbeats 16000000
open Go.RowKit
set_option linter.unusedVariables false
set_option linter.unusedSimpArgs false
theorem own_mono {w : World} {base base' : Nat} {e : TypeId} {size : Nat} {v : Value} {n : Nat} {xs : List Value} (h : w.ownsRow base' e size v n xs) (hb : base ≤ base') : w.ownsRow base e size v n xs := by
  refine ⟨h.1, ?_⟩
  rcases h.2 with h2 | ⟨g, cap, cur, hv, hg, h3⟩
  · exact .inl h2
  · exact .inr ⟨g, cap, cur, hv, by omega, h3⟩
theorem keep_box {W W5 : World} {r : Option Nat} {q : Nat} {o : Obj} (g : W.grownBy W5 r) (hq : W.heap[q]? = some o) (hne : r ≠ some q) : W5.heap[q]? = some o := by
  rw [g.block q (heap_lt hq) (fun e => hne e.symm)]; exact hq
theorem below_box {B : Nat} {W W5 : World} {q : Nat} {o : Obj} (g : Below B W W5) (hB : q < B) (hq : W.heap[q]? = some o) : W5.heap[q]? = some o := by
  rw [g.block q hB]; exact hq
theorem two_cells2 (W : World) (x y : Value) (t : TypeId) (b : Nat) (hb : W.heap.size = b) : ∀ j u, [x, y][j]? = some u → (W.alloc (.cells #[x, y] t)).cell? ((⟨b, 0, none⟩ : Addr).add j) = some u := by
  subst hb
  exact two_cells W x y t
theorem areB_step {size align : Int} {z : List (Int × Int)} {j : Nat} (h : ∀ i, i < j → startB (tOf z i) size align = tOf z i ∧ (0 < i → tOf z (i - 1) < tOf z i)) (h1 : startB (tOf z j) size align = tOf z j) (h2 : 0 < j → tOf z (j - 1) < tOf z j) :
    ∀ i, i < j + 1 → startB (tOf z i) size align = tOf z i ∧ (0 < i → tOf z (i - 1) < tOf z i) := fun i hi => by
  by_cases e : i = j
  · subst e; exact ⟨h1, h2⟩
  · exact h i (by omega)
theorem arebuckets_any (size align : Int) (a : Option Addr) (len cap : Nat) (z : List (Int × Int)) (w : World) (h : SampAt w a len cap z) :
    Calls Tryz.prog 276 #[.int .i64 size, .int .i64 align, .slice a len cap] w fun e w' => e = .returned (.bool (decide (areB size align z))) ∧ Below w.heap.size w w' := by
  have HL := hid h.1
  have b1 := h.2.2.1
  have HS := hid h
  clear h
  go_enter Tryz.func276, Tryz.ntmps276
  go_wp2
  go_loopw [11] (fun i wr => ∃ j : Nat, j ≤ len ∧ i = .int .i64 (j : Int) ∧ Hid (∀ i, i < j → startB (tOf z i) size align = tOf z i ∧ (0 < i → tOf z (i - 1) < tOf z i)) ∧ Below w.heap.size w wr) (fun i _ => len - (intOf i).toNat)
  case atStart => exact ⟨0, Nat.zero_le _, rfl, hid (fun i hi => by omega), Below.refl _ _⟩
  case round =>
    obtain ⟨j, hj, rfl, HT, B⟩ := hrel
    by_cases hjn : j < len
    · obtain ⟨p, o, ha, hp, hall⟩ := (HS.out.keep B).all (by omega)
      obtain ⟨x0, x1⟩ := hall j hjn
      subst ha
      obtain ⟨t, ht⟩ : ∃ t, tOf z j = t := ⟨_, rfl⟩
      generalize vOf z j = v at *
      rw [ht] at x0
      have HTJ := hid ht
      clear ht
      have hjl : j < z.length := by rw [HL.out]; exact hjn
      by_cases hz : j = 0
      · have HST := hid (areB_step (size := size) (align := align) (z := z) (j := j) HT.out)
        have HNO := hid (show startB t size align ≠ t → ¬ areB size align z from fun hn h => hn (by have := (h j hjl).1; rwa [HTJ.out] at this))
        rw [HTJ.out] at HST
        have HZ := hid hz
        have hj0 : ¬ (0 : Int) < (j : Int) := by omega
        have hj1 : decide ((0 : Int) < (j : Int)) = false := decide_eq_false hj0
        clear hall hz
        go_wp2_with fail
        have B2 := B.alloc B.size (.cells #[.int .i64 t, .int .i64 v] 27)
        have hn := heap_new wr (.cells #[.int .i64 t, .int .i64 v] 27)
        generalize hq : wr.heap.size = q at *
        generalize wr.alloc (.cells #[.int .i64 t, .int .i64 v] 27) = W2 at *
        have n0 : W2.cell? ⟨q, 0, none⟩ = some (.int .i64 t) := by rw [cell_of hn]; rfl
        have hj2 : ¬ (0 : Int) < (j : Int) := by have := HZ.out; omega
        have hj3 : decide ((0 : Int) < (j : Int)) = false := decide_eq_false hj2
        have hj4 : decide (0 < j) = false := decide_eq_false (by have := HZ.out; omega)
        clear hn x0 x1 B hq hjl HT
        by_cases he : startB t size align = t
        · have tb : (startB t size align != t) = false := by rw [bne_eq_false_iff_eq]; exact he
          have HT2 := hid (HST.out he (fun h => absurd h (by have := HZ.out; omega)))
          clear he HST HNO
          go_quiet (with_reducible exact quietL (start_any t size align _))
          have B3 := B2.trans ((show Drew W2 (W2.drewN nq) from ⟨nq, rfl⟩).below.mono B2.size)
          generalize W2.drewN nq = W3 at *
          clear n0 B2
          go_wp2
          go_roundw
          case rel => exact ⟨j + 1, by omega, by go_num, HT2, B3⟩
          case measure => simp [intOf]; omega
        · have tb : (startB t size align != t) = true := by rw [bne_iff_ne]; exact he
          have HN := hid (HNO.out he)
          clear he HST HNO
          go_quiet (with_reducible exact quietL (start_any t size align _))
          have B3 := B2.trans ((show Drew W2 (W2.drewN nq) from ⟨nq, rfl⟩).below.mono B2.size)
          generalize W2.drewN nq = W3 at *
          clear n0 B2
          go_wp2
          go_ret
          exact ⟨ret_bool (decide_eq_false HN.out).symm, B3⟩
      · obtain ⟨k, hk⟩ : ∃ k, j = k + 1 := ⟨j - 1, by omega⟩
        have HST := hid (areB_step (size := size) (align := align) (z := z) (j := j) HT.out)
        have HNO := hid (show startB t size align ≠ t → ¬ areB size align z from fun hn h => hn (by have := (h j hjl).1; rwa [HTJ.out] at this))
        obtain ⟨u, hu⟩ : ∃ u, tOf z k = u := ⟨_, rfl⟩
        have HNO2 := hid (show t ≤ u → ¬ areB size align z from fun hn h => by have := (h j hjl).2 (by omega); rw [HTJ.out, hk, Nat.add_sub_cancel, hu] at this; omega)
        rw [HTJ.out, show j - 1 = k from by omega, hu] at HST
        obtain ⟨y0, y1⟩ := hall k (by omega)
        rw [hu] at y0
        clear hall hu y1 hz
        have hk1 : (j : Int) - 1 = (k : Int) := by omega
        have hkl : (k : Int) < (len : Int) := by omega
        have hkw : IntKind.i64.wrap (k : Int) = (k : Int) := IntWalk.i64_in _ ⟨by omega, by omega⟩
        have HKJ := hid hk
        clear hk
        go_wp2_with fail
        have B2 := B.alloc B.size (.cells #[.int .i64 t, .int .i64 v] 27)
        have hn := heap_new wr (.cells #[.int .i64 t, .int .i64 v] 27)
        have hpn : p < wr.heap.size := hp
        have y2 : (wr.alloc (.cells #[.int .i64 t, .int .i64 v] 27)).cell? ⟨p, o + k * 2, none⟩ = some (.int .i64 u) := by
          rw [((Below.refl wr.heap.size wr).alloc (Nat.le_refl _) _).cell hpn]; exact y0
        generalize hq : wr.heap.size = q at *
        generalize wr.alloc (.cells #[.int .i64 t, .int .i64 v] 27) = W2 at *
        have n0 : W2.cell? ⟨q, 0, none⟩ = some (.int .i64 t) := by rw [cell_of hn]; rfl
        have hkp : (0 : Int) < (j : Int) := by have := HKJ.out; omega
        have hkd : decide ((0 : Int) < (j : Int)) = true := decide_eq_true hkp
        have hkd2 : decide (0 < j) = true := decide_eq_true (by have := HKJ.out; omega)
        clear hn x0 x1 y0 B hq hjl HT
        by_cases he : startB t size align = t
        · have tb : (startB t size align != t) = false := by rw [bne_eq_false_iff_eq]; exact he
          by_cases hg : t ≤ u
          · have HN := hid (HNO2.out hg)
            have hgd : decide (t ≤ u) = true := decide_eq_true hg
            clear he HST HNO HNO2
            go_quiet (with_reducible exact quietL (start_any t size align _))
            have B3 := B2.trans ((show Drew W2 (W2.drewN nq) from ⟨nq, rfl⟩).below.mono B2.size)
            generalize W2.drewN nq = W3 at *
            clear n0 y2 B2
            go_wp2
            go_ret
            exact ⟨ret_bool (decide_eq_false HN.out).symm, B3⟩
          · have HT2 := hid (HST.out he (fun _ => by omega))
            have hgd : decide (t ≤ u) = false := decide_eq_false hg
            clear he HST HNO HNO2
            go_quiet (with_reducible exact quietL (start_any t size align _))
            have B3 := B2.trans ((show Drew W2 (W2.drewN nq) from ⟨nq, rfl⟩).below.mono B2.size)
            generalize W2.drewN nq = W3 at *
            clear n0 y2 B2
            go_wp2
            go_roundw
            case rel => exact ⟨j + 1, by omega, by go_num, HT2, B3⟩
            case measure => simp [intOf]; omega
        · have tb : (startB t size align != t) = true := by rw [bne_iff_ne]; exact he
          have HN := hid (HNO.out he)
          clear he HST HNO HNO2
          go_quiet (with_reducible exact quietL (start_any t size align _))
          have B3 := B2.trans ((show Drew W2 (W2.drewN nq) from ⟨nq, rfl⟩).below.mono B2.size)
          generalize W2.drewN nq = W3 at *
          clear n0 y2 B2
          go_wp2
          go_ret
          exact ⟨ret_bool (decide_eq_false HN.out).symm, B3⟩
    · obtain rfl : j = len := by omega
      have E := hid (show areB size align z from fun i hi => HT.out i (by rw [HL.out] at hi; exact hi))
      go_wp2
      go_ret
      exact ⟨ret_bool (decide_eq_true E.out).symm, B⟩
theorem empty_some (k v u : Int) (w : World) (h : emptyV k v = some u) :
    Calls Tryz.prog 313 #[.int .i64 k, .int .i64 v] w fun e w' => e = .returned (tell u true) ∧ w = w' := by
  unfold tell
  by_cases h1 : k = 1
  · subst h1
    obtain rfl : (0 : Int) = u := by simpa [emptyV] using h
    clear h
    go_enter Tryz.func313, Tryz.ntmps313
    go_wp2
    go_ret2
    exact ⟨rfl, rfl⟩
  · by_cases h4 : k = 4
    · subst h4
      obtain rfl : (0 : Int) = u := by simpa [emptyV] using h
      clear h
      go_enter Tryz.func313, Tryz.ntmps313
      go_wp2
      go_ret2
      exact ⟨rfl, rfl⟩
    · obtain rfl : k = 6 := by
        unfold emptyV at h
        rw [if_neg (by omega)] at h
        split at h
        · assumption
        · cases h
      obtain rfl : v = u := by simpa [emptyV] using h
      clear h
      go_enter Tryz.func313, Tryz.ntmps313
      go_wp2
      go_ret2
      exact ⟨rfl, rfl⟩
theorem empty_none (k v : Int) (w : World) (h : emptyV k v = none) :
    Calls Tryz.prog 313 #[.int .i64 k, .int .i64 v] w fun e w' => e = .returned (tell 0 false) ∧ w = w' := by
  unfold tell
  have h0 : k ≠ 1 ∧ k ≠ 4 ∧ k ≠ 6 := by
    unfold emptyV at h
    split at h
    · cases h
    · split at h
      · cases h
      · omega
  obtain ⟨h1, h4, h6⟩ := h0
  have t1 : (k == 1) = false := beq_eq_false_iff_ne.2 h1
  have t4 : (k == 4) = false := beq_eq_false_iff_ne.2 h4
  have t6 : (k == 6) = false := beq_eq_false_iff_ne.2 h6
  clear h h1 h4 h6
  go_enter Tryz.func313, Tryz.ntmps313
  go_wp2
  go_ret2
  exact ⟨rfl, rfl⟩
def LongP (P : List (Int × Int)) (w : World) (e : Ending) (w' : World) : Prop :=
  ∃ F v, e = .returned v ∧ w'.ownsRow w.heap.size 27 2 v F.length (smpCells F) ∧ Below w.heap.size w w' ∧ F.length ≤ 30000 ∧ (P.length ≤ 10000 ∧ F = P ∨ 10000 < P.length ∧ 10000 < F.length)
theorem long_of {P F : List (Int × Int)} (h : F = P) : P.length ≤ 10000 ∧ F = P ∨ 10000 < P.length ∧ 10000 < F.length := by
  subst h
  by_cases hp : F.length ≤ 10000
  · exact .inl ⟨hp, rfl⟩
  · exact .inr ⟨by omega, by omega⟩
theorem filled_any (k size align : Int) (a : Option Addr) (len cap : Nat) (z : List (Int × Int)) (w : World) (h : SampAt w a len cap z) (hl : len ≤ 10000) (hr : rightB size align) (hb : areB size align z) :
    Calls Tryz.prog 277 #[.int .i64 k, .int .i64 size, .int .i64 align, .slice a len cap] w (LongP (fillP k size align z z.length) w) := by
  have HL := hid h.1
  have HS := hid h
  have HB := hid hb
  have HR := hid hr
  have HFL := hid (fun i (hi : i ≤ z.length) => fillP_le k size align z hi)
  have hs1 := hr.1.1
  clear h hb hr
  go_enter Tryz.func277, Tryz.ntmps277
  go_wp2
  go_step3
  go_wp2
  go_step3
  go_wp2
  go_loopw [9, 17] (fun v i wr => ∃ j : Nat, j ≤ len ∧ i = .int .i64 (j : Int) ∧ wr.ownsRow w.heap.size 27 2 v (fillP k size align z j).length (smpCells (fillP k size align z j)) ∧ (fillP k size align z j).length ≤ 10001 + j ∧ Below w.heap.size w wr) (fun _ i _ => len - (intOf i).toNat)
  case atStart => exact ⟨0, Nat.zero_le _, rfl, World.ownsRow_nil _ _ _ _, by simp [fillP], Below.refl _ _⟩
  case round =>
    obtain ⟨j, hj, rfl, hown, hfl, B⟩ := hrel
    by_cases hjn : j < len
    · obtain ⟨p, o, ha, hp, hall⟩ := (HS.out.keep B).all (by omega)
      obtain ⟨x0, x1⟩ := hall j hjn
      subst ha
      have HSU := hid (fillP_succ k size align z j)
      have HGN := hid (fun h => gapAt_none (k := k) (size := size) (align := align) (z := z) (j := j) h)
      have HGL := hid (fun h => gapAt_last (k := k) (size := size) (align := align) (z := z) (j := j) h)
      have HGS := hid (fun u h h' => gapAt_some (k := k) (size := size) (align := align) (v := u) (z := z) (j := j) h h')
      have HST := hid (HB.out j (by rw [HL.out]; exact hjn)).1
      obtain ⟨t, ht⟩ : ∃ t, tOf z j = t := ⟨_, rfl⟩
      obtain ⟨v, hv⟩ : ∃ v, vOf z j = v := ⟨_, rfl⟩
      rw [ht] at x0 HSU HGS HST
      rw [hv] at x1 HSU HGS HGN
      generalize hP : fillP k size align z j = P at *
      clear ht hv hall hP
      obtain ⟨i0, hi, hz0, hz1, hz2⟩ := info_parts info_samp
      have s1 := B.size
      go_wp2_with (at_builtin; refine wpList_append_own _ rfl _ _ 52 rfl w.heap.size 27 i0 _ 2 16 Tryz.underlying52 hi hz0 hz1 hz2 rfl (by decide) _ _ _ rfl ((hown.alloc _).alloc _) ⟨wr.heap.size + 1, 0, none⟩ 1 1 [.int .i64 t, .int .i64 v] rfl rfl (two_cells2 _ _ _ _ _ (by simp)) (smp_one _ _) (by unfold maxLen; omega) (by omega) (by simp; omega) ?_)
      intro v5 W5 hown5 g5 _
      have hbx := keep_box g5 (heap_old (o := .cells #[.int .i64 t, .int .i64 v] 27) (heap_new wr (.cells #[.int .i64 t, .int .i64 v] 27))) (fun e => by have := (hown.lt _ e).2; omega)
      have B5 := ((B.alloc s1 (.cells #[.int .i64 t, .int .i64 v] 27)).alloc (by simp; omega) (.cells #[.int .i64 t, .int .i64 v] 27)).grown g5 (by simp; omega) (fun k hk => (hown.lt k hk).1)
      have hown5' : W5.ownsRow w.heap.size 27 2 v5 (P ++ [(t, v)]).length (smpCells (P ++ [(t, v)])) := by
        rw [List.length_append, List.length_singleton, smpCells_snoc]
        exact hown5
      generalize hq : wr.heap.size = q at *
      clear g5 hi hz0 hz1 hz2 x0 x1 hown hown5 B s1 hq
      have c0 : W5.cell? ⟨q, 0, none⟩ = some (.int .i64 t) := by rw [cell_of hbx]; rfl
      have c1 : W5.cell? ⟨q, 1, none⟩ = some (.int .i64 v) := by rw [cell_of hbx]; rfl
      clear hbx
      have hPl : (P ++ [(t, v)]).length ≤ 10002 + j := by rw [List.length_append, List.length_singleton]; omega
      cases hem : emptyV k v with
      | none =>
        have HE := hid hem
        have HF1 := hid (show fillP k size align z (j + 1) = P ++ [(t, v)] from by rw [HSU.out, HGN.out hem, List.append_nil])
        clear hem
        go_wp2_with fail
        refine (empty_none k v _ HE.out).mono ?_
        rintro e w' ⟨rfl, rfl⟩
        unfold tell
        go_wp2
        go_roundw
        case rel => exact ⟨j + 1, by omega, by go_num, by rw [HF1.out]; exact hown5', by rw [HF1.out]; omega, B5⟩
        case measure => simp [intOf]; omega
      | some u =>
        have HE := hid hem
        clear HGN
        go_wp2_with fail
        refine (empty_some k v u _ HE.out).mono ?_
        rintro e w' ⟨rfl, rfl⟩
        unfold tell
        by_cases hla : j + 1 = len
        · have HF1 := hid (show fillP k size align z (j + 1) = P ++ [(t, v)] from by rw [HSU.out, HGL.out (by rw [HL.out]; omega), List.append_nil])
          have tl : ((j : Int) + 1 == (len : Int)) = true := by rw [beq_iff_eq]; omega
          clear hem hla
          go_wp2
          go_roundw
          case rel => exact ⟨j + 1, by omega, by go_num, by rw [HF1.out]; exact hown5', by rw [HF1.out]; omega, B5⟩
          case measure => simp [intOf]; omega
        · have hj1 : j + 1 < len := by omega
          have tl : ((j : Int) + 1 == (len : Int)) = false := by rw [beq_eq_false_iff_ne]; omega
          have HF1 := hid (show fillP k size align z (j + 1) = P ++ [(t, v)] ++ gapL size u (endB t size align) (cntG size (endB t size align) (tOf z (j + 1))) from by rw [HSU.out, HGS.out u hem (by rw [HL.out]; exact hj1)])
          have HGP := hid (fun m hm => gap_step HR.out HST.out m hm)
          have HT1 := hid (startB_fix HR.out (HB.out (j + 1) (by rw [HL.out]; exact hj1)).1)
          have HLN := hid (HFL.out (j + 1) (by rw [HL.out]; omega))
          clear hem hla HSU HGL HGS
          go_wp2_with fail
          refine (end_any t size align _).mono ?_
          rintro e w' ⟨rfl, rfl⟩
          obtain ⟨t1, ht1⟩ : ∃ t1, tOf z (j + 1) = t1 := ⟨_, rfl⟩
          rw [ht1] at HF1 HT1
          have HTT := hid ht1
          generalize hP1 : P ++ [(t, v)] = P1 at *
          generalize endB t size align = b0 at *
          clear hP1 ht1 c0 c1
          go_wp2
          go_loopw [9, 14] (fun v b wr => ∃ m : Nat, m ≤ cntG size b0 t1 ∧ b = .int .i64 (b0 + (m : Int) * size) ∧ wr.ownsRow w.heap.size 27 2 v (P1 ++ gapL size u b0 m).length (smpCells (P1 ++ gapL size u b0 m)) ∧ (P1 ++ gapL size u b0 m).length ≤ 10002 + j ∧ Below w.heap.size w wr) (fun _ b _ => (t1 - intOf b).toNat)
          case atStart =>
            refine ⟨0, Nat.zero_le _, ?_, ?_, ?_, B5⟩
            · simp
            · rw [gapL_zero, List.append_nil]; exact hown5'
            · rw [gapL_zero, List.append_nil]; exact hPl
          case round =>
            obtain ⟨m, hm, rfl, hownm, hml, Bm⟩ := hrel
            obtain ⟨p2, o2, ha2, hp2, y0, y1⟩ := (HS.out.keep Bm).at_ (j + 1) hj1
            cases ha2
            rw [HTT.out] at y0
            clear y1 hp
            have HC := hid (cntG_iff (size := size) (b := b0) (e := t1) hs1 m)
            have HG := hid (HGP.out m)
            have HS1 := hid (gapL_succ size u b0 m)
            have HGLN := hid (gapL_len size u b0 m)
            have HGLC := hid (gapL_len size u b0 (cntG size b0 t1))
            have HMS := hid (show ((m + 1 : Nat) : Int) * size = (m : Int) * size + size from by rw [show ((m + 1 : Nat) : Int) = (m : Int) + 1 from by omega, Int.add_mul, Int.one_mul])
            obtain ⟨b, hb⟩ : ∃ b, b0 + (m : Int) * size = b := ⟨_, rfl⟩
            rw [hb] at HC HG HS1 ⊢
            have HBB := hid hb
            obtain ⟨F, hF⟩ : ∃ F, P1 ++ gapL size u b0 m = F := ⟨_, rfl⟩
            rw [hF] at hownm hml
            have HFF := hid hF
            clear hb hF
            have s2 := Bm.size
            obtain ⟨ad, cp, rfl⟩ := owns_sl hownm
            by_cases hlt : b < t1
            · have HM := hid (HC.out.2 hlt)
              have HE2 := hid (HG.out (by have := HT1.out; omega)).2.1
              by_cases hbig : 10000 < F.length
              · have hbig' : (10000 : Int) < (F.length : Int) := by omega
                have HFIN := hid (show 10000 < (fillP k size align z z.length).length from by
                  have h1 := HLN.out
                  rw [HF1.out, List.length_append, HGLC.out] at h1
                  have h2 : F.length = P1.length + m := by rw [← HFF.out, List.length_append, HGLN.out]
                  have := HM.out
                  omega)
                clear HC HG
                go_wp2
                try rw [Exit.noGoto_ret]
                go_ret
                exact ⟨F, _, rfl, hownm, Bm, by omega, .inr ⟨HFIN.out, hbig⟩⟩
              · have hbig' : ¬ (10000 : Int) < (F.length : Int) := by omega
                obtain ⟨i0, hi, hz0, hz1, hz2⟩ := info_parts info_samp
                clear HC HG
                go_wp2_with (at_builtin; refine wpList_append_own _ rfl _ _ 52 rfl w.heap.size 27 i0 _ 2 16 Tryz.underlying52 hi hz0 hz1 hz2 rfl (by decide) _ _ _ rfl (hownm.alloc _) ⟨wr.heap.size, 0, none⟩ 1 1 [.int .i64 b, .int .i64 u] rfl rfl (two_cells _ _ _ _) (smp_one _ _) (by unfold maxLen; omega) (by omega) (by simp; omega) ?_)
                intro v7 W7 hown7 g7 _
                have B7 := (Bm.alloc s2 (.cells #[.int .i64 b, .int .i64 u] 27)).grown g7 (by simp; omega) (fun k hk => (hownm.lt k hk).1)
                have hown8 : W7.ownsRow w.heap.size 27 2 v7 (F ++ [(b, u)]).length (smpCells (F ++ [(b, u)])) := by
                  rw [List.length_append, List.length_singleton, smpCells_snoc]
                  exact hown7
                have hl8 : (F ++ [(b, u)]).length ≤ 10002 + j := by rw [List.length_append, List.length_singleton]; omega
                clear g7 hi hz0 hz1 hz2 hownm hown7 y0 Bm s2
                go_wp2_with fail
                refine (end_any b size align _).mono ?_
                rintro e w' ⟨rfl, rfl⟩
                rw [HE2.out]
                go_wp2
                go_roundw
                case rel =>
                  refine ⟨m + 1, HM.out, rfl, ?_, ?_, B7⟩
                  · rw [HS1.out, ← List.append_assoc, HFF.out]; exact hown8
                  · rw [HS1.out, ← List.append_assoc, HFF.out]; exact hl8
                case measure =>
                  have h1 := HMS.out
                  have h2 := HBB.out
                  have h3 : ((m : Int) + 1) * size = (m : Int) * size + size := by rw [Int.add_mul, Int.one_mul]
                  simp only [intOf]
                  try omega
            · have hm2 : m = cntG size b0 t1 := by
                have : ¬ m < cntG size b0 t1 := fun h => hlt (HC.out.1 h)
                omega
              have HF2 := hid (show fillP k size align z (j + 1) = F from by rw [HF1.out, ← hm2, HFF.out])
              clear HC HG hm2
              go_wp2
              go_roundw
              case rel => exact ⟨j + 1, by omega, by go_num, by rw [HF2.out]; exact hownm, by rw [HF2.out]; omega, Bm⟩
              case measure => simp [intOf]; omega
    · obtain rfl : j = len := by omega
      have HJ := hid (show fillP k size align z z.length = fillP k size align z j from by rw [HL.out])
      go_wp2
      go_ret
      exact ⟨_, _, rfl, hown, B, by omega, long_of HJ.out.symm⟩
def RowE (r : List (Int × Int) × Int) (w : World) (e : Ending) (w' : World) : Prop :=
  ∃ v, e = .returned (.tuple #[v, .int .i64 r.2]) ∧ w'.ownsRow w.heap.size 27 2 v r.1.length (smpCells r.1) ∧ Below w.heap.size w w'
theorem fill_any (k size align : Int) (a : Option Addr) (len cap : Nat) (z : List (Int × Int)) (w : World) (h : SampAt w a len cap z) (hl : len ≤ 10000) :
    Calls Tryz.prog 221 #[.int .i64 k, .int .i64 size, .int .i64 align, .slice a len cap] w (RowE (fillR k size align z) w) := by
  have HS := hid h
  clear h
  by_cases hf : (1 ≤ k ∧ k ≤ 7) ∧ rightB size align
  · have HF := hid (show canF k size align = true from decide_eq_true hf)
    have HR := hid hf.2
    by_cases hb : areB size align z
    · have HB := hid hb
      by_cases hp : 10000 < (fillP k size align z z.length).length
      · have E := hid (show fillR k size align z = ([], 13) from by unfold fillR; rw [if_pos ⟨hf, hb⟩, if_pos hp])
        rw [E.out]
        have HP := hid hp
        clear hf hb hp E
        go_enter Tryz.func221, Tryz.ntmps221
        go_wp2_with fail
        refine (canfold_any k size align _).mono ?_
        rintro e w' ⟨rfl, rfl⟩
        rw [HF.out]
        go_wp2_with fail
        refine (arebuckets_any size align a len cap z _ HS.out).mono ?_
        rintro e W2 ⟨rfl, B2⟩
        rw [decide_eq_true HB.out]
        go_wp2_with fail
        refine (filled_any k size align a len cap z _ (HS.out.keep B2) hl HR.out HB.out).mono ?_
        rintro e W3 ⟨F, v, rfl, hown, b3, hFl, hF⟩
        have hF2 : (10000 : Int) < (F.length : Int) := by have := HP.out; omega
        obtain ⟨ad, cp, rfl⟩ := owns_sl hown
        have B3 := B2.trans (b3.mono B2.size)
        clear hown b3 hF
        go_wp2
        go_ret2
        exact ⟨_, rfl, World.ownsRow_nil _ _ _ _, B3⟩
      · have E := hid (show fillR k size align z = (fillP k size align z z.length, 0) from by unfold fillR; rw [if_pos ⟨hf, hb⟩, if_neg hp])
        rw [E.out]
        have HP := hid hp
        clear hf hb hp E
        go_enter Tryz.func221, Tryz.ntmps221
        go_wp2_with fail
        refine (canfold_any k size align _).mono ?_
        rintro e w' ⟨rfl, rfl⟩
        rw [HF.out]
        go_wp2_with fail
        refine (arebuckets_any size align a len cap z _ HS.out).mono ?_
        rintro e W2 ⟨rfl, B2⟩
        rw [decide_eq_true HB.out]
        go_wp2_with fail
        refine (filled_any k size align a len cap z _ (HS.out.keep B2) hl HR.out HB.out).mono ?_
        rintro e W3 ⟨F, v, rfl, hown, b3, hFl, hF⟩
        have hF1 : F = fillP k size align z z.length := by
          rcases hF with h | h
          · exact h.2
          · exact absurd h.1 HP.out
        have hF2 : ¬ (10000 : Int) < (F.length : Int) := by have := HP.out; rw [hF1]; omega
        have HF1 := hid hF1
        obtain ⟨ad, cp, rfl⟩ := owns_sl hown
        have B3 := B2.trans (b3.mono B2.size)
        have hown3 := own_mono hown B2.size
        clear hown b3 hF hF1
        go_wp2
        go_ret2
        exact ⟨_, rfl, by rw [← HF1.out]; exact hown3, B3⟩
    · have E := hid (show fillR k size align z = ([], 1) from by unfold fillR; rw [if_neg (fun h => hb h.2)])
      rw [E.out]
      have HB := hid hb
      clear hf hb E
      go_enter Tryz.func221, Tryz.ntmps221
      go_wp2_with fail
      refine (canfold_any k size align _).mono ?_
      rintro e w' ⟨rfl, rfl⟩
      rw [HF.out]
      go_wp2_with fail
      refine (arebuckets_any size align a len cap z _ HS.out).mono ?_
      rintro e W2 ⟨rfl, B2⟩
      rw [decide_eq_false HB.out]
      go_wp2
      go_ret2
      exact ⟨_, rfl, World.ownsRow_nil _ _ _ _, B2⟩
  · have E := hid (show fillR k size align z = ([], 1) from by unfold fillR; rw [if_neg (fun h => hf h.1)])
    have HF := hid (show canF k size align = false from decide_eq_false hf)
    rw [E.out]
    clear hf E
    go_enter Tryz.func221, Tryz.ntmps221
    go_wp2_with fail
    refine (canfold_any k size align _).mono ?_
    rintro e w' ⟨rfl, rfl⟩
    rw [HF.out]
    go_wp2
    go_ret2
    exact ⟨_, rfl, World.ownsRow_nil _ _ _ _, Below.refl _ _⟩
def mixF (z : List (Int × Int)) (n i p : Nat) : Int × Int := if p < i ∨ n ≤ p + i then z.getD (n - 1 - p) (0, 0) else z.getD p (0, 0)
def RevI (g cap n : Nat) (f : Nat → Int × Int) (w wr : World) : Prop :=
  ∃ cur, wr.heap[g]? = some (.cells cur 27 (0, 0)) ∧ cur.size = cap * 2 ∧ (∀ p, p < n → cur[p * 2]? = some (.int .i64 (f p).1) ∧ cur[p * 2 + 1]? = some (.int .i64 (f p).2)) ∧ w.grownBy wr (some g)
theorem cells_of_rows {cur : Array Value} {z : List (Int × Int)} {n : Nat} (hz : z.length = n) (hn : n * 2 ≤ cur.size) (h : ∀ p, p < n → cur[p * 2]? = some (.int .i64 (z.getD p (0, 0)).1) ∧ cur[p * 2 + 1]? = some (.int .i64 (z.getD p (0, 0)).2)) : cur.toList.take (n * 2) = smpCells z := by
  apply List.ext_getElem?
  intro i
  by_cases hi : i < n * 2
  · rw [List.getElem?_take, if_pos hi, Array.getElem?_toList]
    obtain ⟨p, hp⟩ : ∃ p, i = p * 2 ∨ i = p * 2 + 1 := ⟨i / 2, by omega⟩
    have hpn : p < n := by omega
    obtain ⟨c0, c1⟩ := h p hpn
    obtain ⟨d0, d1⟩ := smpCells_get z p (by omega)
    have e : z[p] = z.getD p (0, 0) := by rw [List.getD_eq_getElem?_getD, List.getElem?_eq_getElem (by omega)]; rfl
    rw [e] at d0 d1
    rcases hp with rfl | rfl
    · rw [c0, d0]
    · rw [c1, d1]
  · rw [List.getElem?_take, if_neg hi, List.getElem?_eq_none (by rw [smpCells_length]; omega)]
theorem rows_of_cells {cur : Array Value} {z : List (Int × Int)} {n : Nat} (hz : z.length = n) (h : cur.toList.take (n * 2) = smpCells z) (p : Nat) (hp : p < n) : cur[p * 2]? = some (.int .i64 (z.getD p (0, 0)).1) ∧ cur[p * 2 + 1]? = some (.int .i64 (z.getD p (0, 0)).2) := by
  obtain ⟨d0, d1⟩ := smpCells_get z p (by omega)
  have e : z[p] = z.getD p (0, 0) := by rw [List.getD_eq_getElem?_getD, List.getElem?_eq_getElem (by omega)]; rfl
  rw [e, ← h, List.getElem?_take, if_pos (by omega), Array.getElem?_toList] at d0 d1
  exact ⟨d0, d1⟩
theorem mix_end {z : List (Int × Int)} {n i : Nat} (hz : z.length = n) (h : n ≤ 2 * i + 1) (p : Nat) (hp : p < n) : mixF z n i p = z.reverse.getD p (0, 0) := by
  have e : z.reverse.getD p (0, 0) = z.getD (n - 1 - p) (0, 0) := by
    rw [List.getD_eq_getElem?_getD, List.getD_eq_getElem?_getD, List.getElem?_reverse (by omega), hz]
  unfold mixF
  split
  · exact e.symm
  · rw [e]
    have : p = n - 1 - p := by omega
    rw [← this]
theorem revI_step {g cap n : Nat} {z : List (Int × Int)} {i j : Nat} {w wr : World} (h : RevI g cap n (mixF z n i) w wr) (hij : i < j) (hj : i + j + 1 = n) :
    RevI g cap n (mixF z n (i + 1)) w ((((wr.setCell ⟨g, i * 2, none⟩ (.int .i64 (mixF z n i j).1)).setCell ⟨g, i * 2 + 1, none⟩ (.int .i64 (mixF z n i j).2)).setCell ⟨g, j * 2, none⟩ (.int .i64 (mixF z n i i).1)).setCell ⟨g, j * 2 + 1, none⟩ (.int .i64 (mixF z n i i).2)) := by
  obtain ⟨cur, hc, hs, hf, hg⟩ := h
  have mj : mixF z n (i + 1) i = mixF z n i j := by
    unfold mixF
    rw [if_pos (by omega), if_neg (by omega)]
    rw [show n - 1 - i = j from by omega]
  have mi : mixF z n (i + 1) j = mixF z n i i := by
    unfold mixF
    rw [if_pos (by omega), if_neg (by omega)]
    rw [show n - 1 - j = i from by omega]
  have mo : ∀ p, p ≠ i → p ≠ j → mixF z n (i + 1) p = mixF z n i p := by
    intro p h1 h2
    unfold mixF
    by_cases h : p < i ∨ n ≤ p + i
    · rw [if_pos h, if_pos (by omega)]
    · rw [if_neg h, if_neg (by omega)]
  have szn : n * 2 ≤ cur.size := by
    have := (Array.getElem?_eq_some_iff.1 (hf (n - 1) (by omega)).2).1
    omega
  refine ⟨_, heap_set (heap_set (heap_set (heap_set hc))), by simp; exact hs, fun p hp => ?_, gb_set (gb_set (gb_set (gb_set hg _ _) _ _) _ _) _ _⟩
  obtain ⟨c0, c1⟩ := hf p hp
  by_cases h1 : p = i
  · subst h1
    rw [mj]
    refine ⟨?_, ?_⟩ <;> simp only [Array.getElem?_setIfInBounds, Array.size_setIfInBounds] <;> (repeat' split) <;> first | rfl | (exfalso; omega) | (exfalso; simp at *; done) | (exfalso; contradiction) | (exfalso; rename_i hT; exact hT trivial) | (exfalso; rename_i hT _; exact hT trivial) | (exfalso; rename_i hT _ _; exact hT trivial)| (exfalso; rename_i hT _ _ _; exact hT trivial)
  · by_cases h2 : p = j
    · subst h2
      rw [mi]
      refine ⟨?_, ?_⟩ <;> simp only [Array.getElem?_setIfInBounds, Array.size_setIfInBounds] <;> (repeat' split) <;> first | rfl | (exfalso; omega) | (exfalso; simp at *; done) | (exfalso; contradiction) | (exfalso; rename_i hT; exact hT trivial) | (exfalso; rename_i hT _; exact hT trivial) | (exfalso; rename_i hT _ _; exact hT trivial)| (exfalso; rename_i hT _ _ _; exact hT trivial)
    · rw [mo p h1 h2]
      refine ⟨?_, ?_⟩ <;> simp only [Array.getElem?_setIfInBounds, Array.size_setIfInBounds] <;> rw [if_neg (by omega), if_neg (by omega), if_neg (by omega), if_neg (by omega)] <;> assumption
theorem reverse_any (base : Nat) (v : Value) (n : Nat) (z : List (Int × Int)) (w : World) (h : w.ownsRow base 27 2 v n (smpCells z)) (hz : z.length = n) (hn : n ≤ 1048576) :
    Calls Tryz.prog 150 #[v] w fun e w' => e = .returned (.tuple #[]) ∧ w'.ownsRow base 27 2 v n (smpCells z.reverse) ∧ w.grownBy w' v.ownBlock := by
  rcases h.2 with ⟨rfl, h0⟩ | ⟨g, cap, cur, rfl, hgb, hgc, hl, hcm, hsz, htk⟩
  · subst h0
    have e : z = [] := List.eq_nil_of_length_eq_zero hz
    subst e
    have HH := hid h
    clear h
    go_enter Tryz.func150, Tryz.ntmps150
    go_wp2
    go_loopw [2, 3] (fun i j wr => i = .int .i64 0 ∧ j = .int .i64 (-1) ∧ w = wr) (fun _ _ _ => 0)
    case atStart => exact ⟨rfl, rfl, rfl⟩
    case round =>
      obtain ⟨rfl, rfl, rfl⟩ := hrel
      go_wp2
      go_end0
      exact ⟨rfl, HH.out, gb_refl _ _⟩
  · have HI := hid (show RevI g cap n (mixF z n 0) w w from ⟨cur, hgc, hsz, fun p hp => by
      have e : mixF z n 0 p = z.getD p (0, 0) := by unfold mixF; rw [if_neg (by omega)]
      rw [e]
      exact rows_of_cells hz htk p hp, gb_refl _ _⟩)
    have HZ := hid hz
    have HX := hid (show n ≤ cap ∧ cap ≤ maxLen ∧ base ≤ g from ⟨hl, hcm, hgb⟩)
    clear h hgc hsz htk hz hcm
    go_enter Tryz.func150, Tryz.ntmps150
    go_wp2
    go_loopw [2, 3] (fun a b wr => ∃ i : Nat, a = .int .i64 (i : Int) ∧ b = .int .i64 ((n : Int) - 1 - (i : Int)) ∧ i ≤ n ∧ Hid (RevI g cap n (mixF z n i) w wr)) (fun a _ _ => n - (intOf a).toNat)
    case atStart => exact ⟨0, rfl, by go_num, Nat.zero_le _, HI⟩
    case round =>
      obtain ⟨i, rfl, rfl, hi, HR⟩ := hrel
      by_cases hij : 2 * i + 1 < n
      · obtain ⟨j, hj⟩ : ∃ j, i + j + 1 = n := ⟨n - 1 - i, by omega⟩
        have hjz : (n : Int) - 1 - (i : Int) = (j : Int) := by omega
        rw [hjz]
        have hlt : (i : Int) < (j : Int) := by omega
        have hin : (i : Int) < (n : Int) := by omega
        have hjn : (j : Int) < (n : Int) := by omega
        have HN := hid (revI_step HR.out (show i < j by omega) hj)
        obtain ⟨cr, hcr, hcs, hcf, _⟩ := HR.out
        obtain ⟨x0, x1⟩ := hcf i (by omega)
        obtain ⟨y0, y1⟩ := hcf j (by omega)
        have hin2 : i * 2 + 1 < cr.size := (Array.getElem?_eq_some_iff.1 x1).1
        have hjn2 : j * 2 + 1 < cr.size := (Array.getElem?_eq_some_iff.1 y1).1
        rw [← cell_of hcr] at x0 x1 y0 y1
        have z0 : wr.frozen? ⟨g, i * 2, none⟩ = false := frozen_of hcr
        have z1 : wr.frozen? ⟨g, i * 2 + 1, none⟩ = false := frozen_of hcr
        have z2 : wr.frozen? ⟨g, j * 2, none⟩ = false := frozen_of hcr
        have z3 : wr.frozen? ⟨g, j * 2 + 1, none⟩ = false := frozen_of hcr
        generalize mixF z n i i = X at *
        generalize mixF z n i j = Y at *
        clear hcf hjz
        go_wp2_with fail
        go_big_region
        all_goals go_wp2
        go_roundw
        case rel =>
          refine ⟨i + 1, by go_num, by congr 1; omega, by omega, hid ?_⟩
          obtain ⟨cc, h1, h2, h3, h4⟩ := HN.out
          exact ⟨cc, h1, h2, h3, gb_drew h4⟩
        case measure => simp [intOf]; omega
      · have hlt : ¬ (i : Int) < (n : Int) - 1 - (i : Int) := by omega
        have HE := hid (show wr.ownsRow base 27 2 (.slice (some ⟨g, 0, none⟩) n cap) n (smpCells z.reverse) ∧ w.grownBy wr (some g) from by
          obtain ⟨cr, hcr, hcs, hcf, hgr⟩ := HR.out
          obtain ⟨x1, x2, x3⟩ := HX.out
          refine ⟨⟨by rw [smpCells_length, List.length_reverse, HZ.out], .inr ⟨g, cap, cr, rfl, x3, hcr, x1, x2, hcs, ?_⟩⟩, hgr⟩
          refine cells_of_rows (by rw [List.length_reverse]; exact HZ.out) (by omega) (fun p hp => ?_)
          rw [← mix_end (i := i) HZ.out (by omega) p hp]
          exact hcf p hp)
        go_wp2
        go_end0
        exact ⟨rfl, HE.out.1, HE.out.2⟩
end Go.Proofs.YtmifpfojhlmbkaaGreat
