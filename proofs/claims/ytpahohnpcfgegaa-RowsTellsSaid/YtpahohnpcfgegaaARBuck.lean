/-
  Contract of the document's Buckets.
  Condition: at most 2^20 samples.
-/
import Derived.Test.YtpahohnpcfgegaaARFold
import Derived.Test.YtpahohnpcfgegaaARTime
import Derived.Test.YtpahohnpcfgegaaABuckP
namespace Go.Proofs.Ytpahohnpcfgegaa
open Go.RowKit
set_option linter.unusedVariables false
set_option linter.unusedSimpArgs false

/-- The samples from the k-th to ahead of the m-th. -/
theorem samp_lh {w : World} {a : Option Addr} {len cap : Nat} {z : List (Int × Int)} (h : SampAt w a len cap z) (k m : Nat) (hk : k ≤ m) (hm : m ≤ len) :
    ∃ a', (∀ W : World, (Instr.slice 22 (.slice a len cap) (some (.int .i64 (k : Int))) (some (.int .i64 (m : Int))) none).run Try.prog W = .ok (.slice a' (m - k) (cap - k)) W) ∧ SampAt w a' (m - k) (cap - k) ((z.drop k).take (m - k)) := by
  obtain ⟨h1, h2, h3, h4, h5⟩ := h
  refine ⟨if cap = k then a else a.map (·.add (k * 2)), fun W => ?_, ⟨by simp; omega, by omega, by omega, all64_take (all64_drop h4 k) _, ?_⟩⟩
  · rw [run_slice_lh W 22 _ _ _ (by kernel_rfl) .i64 .i64 (k : Int) (m : Int) (by omega) (by omega) (by omega), size_samp]
    simp [Result.andThen, sliced]
  · by_cases hz : m - k = 0
    · exact .inl hz
    · rcases h5 with h0 | ⟨b, off, rfl, hb, hc⟩
      · omega
      · rw [if_neg (by omega)]
        refine .inr ⟨b, off + k * 2, by simp [Addr.add], hb, fun i hi => ?_⟩
        simp at hi
        have := hc (k + i) (by omega)
        simp only [List.getElem_take, List.getElem_drop]
        rw [show off + k * 2 + i * 2 = off + (k + i) * 2 from by omega]
        exact this


def buckB (k size align : Int) (z : List (Int × Int)) : List (Int × Int) := if okT z then buckL k size align z else []
set_option maxRecDepth 100000 in
set_option maxHeartbeats 4000000 in
theorem rbuckets_ok (k size align : Int) (a : Option Addr) (len cap : Nat) (z : List (Int × Int)) (w : World) (h : SampAt w a len cap z) (hl : len ≤ 1048576) (hk : kok k) (hr : rightB size align) :
    Calls Try.prog 24 #[.int .i64 k, .int .i64 size, .int .i64 align, .slice a len cap] w (RowP (buckB k size align z) w) := by
  have HL := Lib.hid h.1
  have hlc := h.2.1
  have HS := Lib.hid h
  have HR := Lib.hid hr
  obtain ⟨n, hn⟩ : ∃ n, n = nmA k := ⟨_, rfl⟩
  have HN := Lib.hid hn
  have t4 : ¬ n.toList = [] := by rw [hn]; exact fun e => (nmA_empty k).1 e hk
  have t5 : n.toList.isEmpty = false := by simpa using t4
  clear h hk hr hn
  go_enter Try.func24, Try.ntmps24
  go_wp2_with fail
  refine (arname_any k _).mono ?_
  rintro e W1 ⟨rfl, B1⟩
  rw [← HN.out]
  go_wp2_with fail
  refine (rrightB_any _ _ _).mono ?_
  rintro e w' ⟨rfl, rfl⟩
  rw [decide_eq_true HR.out]
  go_wp2
  go_loopw [9, 10, 11] (fun v f i wr => ∃ (n q : Nat), n ≤ q ∧ q ≤ len ∧ (q = len → n = len) ∧ f = .int .i64 (n : Int) ∧ i = .int .i64 (q : Int) ∧ Hid (okT (z.take q)) ∧ Hid (∀ r, n ≤ r → r ≤ q → r < len → startB (tOf z r) size align = startB (tOf z n) size align) ∧ wr.ownsRow w.heap.size 27 2 v (buckL k size align (z.take n)).length (smpCells (buckL k size align (z.take n))) ∧ Hid (n < z.length → ∀ g ∈ (groups size align (z.take n)).getLast?, g.1 ≠ startB (tOf z n) size align) ∧ Below w.heap.size w wr) (fun _ _ i _ => len - (intOf i).toNat)
  case atStart => exact ⟨0, 0, Nat.le_refl _, Nat.zero_le _, fun h => h, rfl, rfl, Lib.hid (fun u hu => by simp at hu), Lib.hid (fun r h1 h2 _ => by rw [show r = 0 from by omega]), World.ownsRow_nil _ _ _ _, Lib.hid (fun _ g hg => by simp [groups, grp] at hg), B1⟩
  case round =>
    clear B1
    obtain ⟨n, q, hnq, hq, hql, rfl, rfl, HOK, HEQ, hown, HB, B⟩ := hrel
    by_cases hqn : q < len
    · obtain ⟨p, o, ha, hp, hall⟩ := (HS.out.keep B).all (by omega)
      subst ha
      obtain ⟨x0, x1⟩ := hall q hqn
      have HALL := Lib.hid hall
      have HT := Lib.hid (okT_step (z := z) (j := q) (by rw [HL.out]; exact hqn) HOK.out)
      have HTN := Lib.hid (okT_not (z := z) (j := q) (by rw [HL.out]; exact hqn))
      obtain ⟨t, ht⟩ : ∃ t, tOf z q = t := ⟨_, rfl⟩
      rw [ht] at x0 HT HTN
      have HTQ := Lib.hid ht
      clear ht x1 hall
      by_cases hc : canT t = true
      · have hc2 : 0 ≤ t ∧ t ≤ 1099511627776 := of_decide_eq_true hc
        obtain ⟨hc3, hc4⟩ := hc2
        have HT2 := Lib.hid (HT.out hc)
        clear HT HTN hc
        go_wp2_with fail
        refine (rstart_any t size align _).mono ?_
        rintro e w' ⟨rfl, rfl⟩
        have HST := Lib.hid (show startB t size align = startB (tOf z n) size align from by rw [← HTQ.out]; exact HEQ.out q hnq (Nat.le_refl _) hqn)
        obtain ⟨st, hst⟩ : ∃ st, startB t size align = st := ⟨_, rfl⟩
        rw [hst] at HST ⊢
        clear hst
        have hql1 : q + 1 ≤ len := hqn
        by_cases hlast : q + 1 = len
        · have tl : ((q : Int) + 1 == (len : Int)) = true := by rw [beq_iff_eq]; omega
          have HTG := Lib.hid (show TogP size align (z.drop n) (q + 1 - n) from by
            refine ⟨by rw [List.length_drop, HL.out]; omega, fun i hi => ?_, .inl (by rw [List.length_drop, HL.out]; omega)⟩
            rw [tOf_drop, tOf_drop, Nat.add_zero]
            exact HEQ.out (n + i) (by omega) (by omega) (by omega))
          clear HALL hlast hqn
          obtain ⟨hm, hnm, hbk, hnx⟩ := buck_step (k := k) (by rw [HL.out]; omega) (HB.out (by rw [HL.out]; omega)) HTG.out
          rw [show n + (q + 1 - n) = q + 1 from by omega] at hbk hnx
          have HBK := Lib.hid hbk
          have HNX := Lib.hid hnx
          obtain ⟨a1, hs1, L1⟩ := samp_lh HS.out n (q + 1) (by omega) hql1
          have HL1 := Lib.hid L1
          rw [show ((q + 1 : Nat) : Int) = (q : Int) + 1 from by omega] at hs1
          clear hm hnm hbk hnx L1 HTG HEQ HB x0
          go_wp2_with fail
          refine (rfold_any k a1 (q + 1 - n) (cap - n) ((z.drop n).take (q + 1 - n)) _ (HL1.out.keep B) (by omega)).mono ?_
          rintro e W3 ⟨rfl, b3⟩
          have hown3 := own_keepN hown (gb_below b3)
          have B3 := bel_gbn B B.size (gb_below b3)
          clear b3 B hown hs1
          obtain ⟨x, hx⟩ : ∃ x, valK k (valsOf ((z.drop n).take (q + 1 - n))) = x := ⟨_, rfl⟩
          obtain ⟨y, hy⟩ : ∃ y, isK k (valsOf ((z.drop n).take (q + 1 - n))) = y := ⟨_, rfl⟩
          rw [hx, ← HST.out] at HBK
          rw [hx]
          rw [hy]
          clear hx hy
          unfold tell
          obtain ⟨i0, hi, hz0, hz1, hz2⟩ := info_parts info_samp
          have hbl := buck_few k size align (z.take n)
          rw [List.length_take] at hbl
          have s3 := B3.size
          generalize hL : buckL k size align (z.take n) = L at *
          go_wp2_with (at_builtin; refine wpList_append_own _ rfl _ _ 22 rfl w.heap.size 27 i0 _ 2 16 Try.underlying22 hi hz0 hz1 hz2 rfl (by decide) _ _ _ rfl (hown3.alloc _) ⟨W3.heap.size, 0, none⟩ 1 1 [.int .i64 st, .int .i64 x] rfl rfl (two_cells _ _ _ _) (smp_one _ _) (by unfold maxLen; omega) (by omega) (by simp; omega) ?_)
          intro v' W5 hown5 g5 _
          have B5 := (B3.alloc s3 (.cells #[.int .i64 st, .int .i64 x] 27)).grown g5 (by simp; omega) (fun k hk => (hown3.lt k hk).1)
          clear hown3 g5 hi hz0 hz1 hz2 B3 s3 hL
          go_wp2
          go_roundw
          case rel =>
            refine ⟨q + 1, q + 1, Nat.le_refl _, hql1, fun h => h, by go_num, by go_num, HT2, Lib.hid (fun r h1 h2 _ => by rw [show r = q + 1 from by omega]), ?_, ?_, B5⟩
            · rw [HBK.out, List.length_append, List.length_singleton, smpCells_snoc]
              exact hown5
            · exact HNX
          case measure => simp [intOf]; omega
        · have tl : ((q : Int) + 1 == (len : Int)) = false := by rw [beq_eq_false_iff_ne]; omega
          have hq1 : q + 1 < len := by omega
          have HLA := Lib.hid hlast
          clear hlast hqn
          obtain ⟨y0, y1⟩ := HALL.out (q + 1) hq1
          obtain ⟨u, hu⟩ : ∃ u, tOf z (q + 1) = u := ⟨_, rfl⟩
          rw [hu] at y0
          have HU := Lib.hid hu
          clear hu y1 HALL
          by_cases he : startB u size align = st
          · have HEQ2 := Lib.hid (show ∀ r, n ≤ r → r ≤ q + 1 → r < len → startB (tOf z r) size align = startB (tOf z n) size align from fun r h1 h2 h3 => by
              by_cases e : r = q + 1
              · subst e; rw [HU.out, he, HST.out]
              · exact HEQ.out r h1 (by omega) h3)
            have tb : (startB u size align != st) = false := by rw [bne_eq_false_iff_eq]; exact he
            clear he HEQ
            go_wp2_with fail
            refine (rstart_any u size align _).mono ?_
            rintro e w' ⟨rfl, rfl⟩
            go_wp2
            go_roundw
            case rel => exact ⟨n, q + 1, by omega, hql1, fun h => absurd h HLA.out, rfl, by go_num, HT2, HEQ2, hown, HB, B⟩
            case measure => simp [intOf]; omega
          · have HTG := Lib.hid (show TogP size align (z.drop n) (q + 1 - n) from by
              refine ⟨by rw [List.length_drop, HL.out]; omega, fun i hi => ?_, .inr ?_⟩
              · rw [tOf_drop, tOf_drop, Nat.add_zero]
                exact HEQ.out (n + i) (by omega) (by omega) (by omega)
              · rw [tOf_drop, tOf_drop, show n + (q + 1 - n) = q + 1 from by omega, show n + 0 = n from rfl, HU.out, ← HST.out]
                exact he)
            have tb : (startB u size align != st) = true := by rw [bne_iff_ne]; exact he
            clear he
            go_wp2_with fail
            refine (rstart_any u size align _).mono ?_
            rintro e w' ⟨rfl, rfl⟩
            generalize startB u size align = su at *
            clear y0
            obtain ⟨hm, hnm, hbk, hnx⟩ := buck_step (k := k) (by rw [HL.out]; omega) (HB.out (by rw [HL.out]; omega)) HTG.out
            rw [show n + (q + 1 - n) = q + 1 from by omega] at hbk hnx
            have HBK := Lib.hid hbk
            have HNX := Lib.hid hnx
            obtain ⟨a1, hs1, L1⟩ := samp_lh HS.out n (q + 1) (by omega) hql1
            have HL1 := Lib.hid L1
            rw [show ((q + 1 : Nat) : Int) = (q : Int) + 1 from by omega] at hs1
            clear hm hnm hbk hnx L1 HTG HEQ HB x0
            go_wp2_with fail
            refine (rfold_any k a1 (q + 1 - n) (cap - n) ((z.drop n).take (q + 1 - n)) _ (HL1.out.keep B) (by omega)).mono ?_
            rintro e W3 ⟨rfl, b3⟩
            have hown3 := own_keepN hown (gb_below b3)
            have B3 := bel_gbn B B.size (gb_below b3)
            clear b3 B hown hs1
            obtain ⟨x, hx⟩ : ∃ x, valK k (valsOf ((z.drop n).take (q + 1 - n))) = x := ⟨_, rfl⟩
            obtain ⟨y, hy⟩ : ∃ y, isK k (valsOf ((z.drop n).take (q + 1 - n))) = y := ⟨_, rfl⟩
            rw [hx, ← HST.out] at HBK
            rw [hx]
            rw [hy]
            clear hx hy
            unfold tell
            obtain ⟨i0, hi, hz0, hz1, hz2⟩ := info_parts info_samp
            have hbl := buck_few k size align (z.take n)
            rw [List.length_take] at hbl
            have s3 := B3.size
            generalize hL : buckL k size align (z.take n) = L at *
            go_wp2_with (at_builtin; refine wpList_append_own _ rfl _ _ 22 rfl w.heap.size 27 i0 _ 2 16 Try.underlying22 hi hz0 hz1 hz2 rfl (by decide) _ _ _ rfl (hown3.alloc _) ⟨W3.heap.size, 0, none⟩ 1 1 [.int .i64 st, .int .i64 x] rfl rfl (two_cells _ _ _ _) (smp_one _ _) (by unfold maxLen; omega) (by omega) (by simp; omega) ?_)
            intro v' W5 hown5 g5 _
            have B5 := (B3.alloc s3 (.cells #[.int .i64 st, .int .i64 x] 27)).grown g5 (by simp; omega) (fun k hk => (hown3.lt k hk).1)
            clear hown3 g5 hi hz0 hz1 hz2 B3 s3 hL
            go_wp2
            go_roundw
            case rel =>
              refine ⟨q + 1, q + 1, Nat.le_refl _, hql1, fun h => h, by go_num, by go_num, HT2, Lib.hid (fun r h1 h2 _ => by rw [show r = q + 1 from by omega]), ?_, ?_, B5⟩
              · rw [HBK.out, List.length_append, List.length_singleton, smpCells_snoc]
                exact hown5
              · exact HNX
            case measure => simp [intOf]; omega
      · have hc2 : canT t = false := by simpa using hc
        have HNO := Lib.hid (show buckB k size align z = [] from by unfold buckB; rw [if_neg (HTN.out hc2)])
        have hc3 : ¬ (0 ≤ t ∧ t ≤ 1099511627776) := of_decide_eq_false hc2
        clear HT HTN hc hc2 HALL
        by_cases hneg : t < 0
        · clear hc3
          go_wp2
          go_ret
          exact ⟨_, rfl, by rw [HNO.out]; exact World.ownsRow_nil _ _ _ _, B⟩
        · have hbig : 1099511627776 < t := by omega
          clear hc3
          go_wp2
          go_ret
          exact ⟨_, rfl, by rw [HNO.out]; exact World.ownsRow_nil _ _ _ _, B⟩
    · obtain rfl : q = len := by omega
      obtain rfl : n = q := hql rfl
      have HE := Lib.hid (show buckB k size align z = buckL k size align (z.take n) from by
        unfold buckB
        have h1 := HOK.out
        have e : z.take n = z := List.take_of_length_le (by rw [HL.out]; exact Nat.le_refl _)
        rw [e] at h1
        rw [if_pos h1, e])
      go_wp2
      go_ret
      refine ⟨_, rfl, ?_, B⟩
      rw [HE.out]
      exact hown

set_option maxHeartbeats 1000000 in
theorem rbuckets_any (k size align : Int) (a : Option Addr) (len cap : Nat) (z : List (Int × Int)) (w : World) (h : SampAt w a len cap z) (hl : len ≤ 1048576) :
    Calls Try.prog 24 #[.int .i64 k, .int .i64 size, .int .i64 align, .slice a len cap] w (RowP (buckA k size align z) w) := by
  by_cases hk : kok k
  · by_cases hr : rightB size align
    · have e : buckB k size align z = buckA k size align z := by
        unfold buckB buckA
        by_cases ht : okT z
        · rw [if_pos ht, if_pos ⟨hk, hr, ht⟩]
        · rw [if_neg ht, if_neg (fun h => ht h.2.2)]
      rw [← e]
      exact rbuckets_ok k size align a len cap z w h hl hk hr
    · rw [show buckA k size align z = [] from by unfold buckA; rw [if_neg (fun h => hr h.2.1)]]
      have HR := Lib.hid hr
      obtain ⟨n, hn⟩ : ∃ n, n = nmA k := ⟨_, rfl⟩
      have HN := Lib.hid hn
      have t4 : ¬ n.toList = [] := by rw [hn]; exact fun e => (nmA_empty k).1 e hk
      have t5 : n.toList.isEmpty = false := by simpa using t4
      clear h hk hr hn
      go_enter Try.func24, Try.ntmps24
      go_wp2_with fail
      refine (arname_any k _).mono ?_
      rintro e W1 ⟨rfl, B1⟩
      rw [← HN.out]
      go_wp2_with fail
      refine (rrightB_any _ _ _).mono ?_
      rintro e w' ⟨rfl, rfl⟩
      rw [decide_eq_false HR.out]
      go_wp2
      go_ret
      exact ⟨_, rfl, World.ownsRow_nil _ _ _ _, B1⟩
  · rw [show buckA k size align z = [] from by unfold buckA; rw [if_neg (fun h => hk h.1)]]
    have E := Lib.hid (nmA_no hk)
    clear hk h
    go_enter Try.func24, Try.ntmps24
    go_wp2_with fail
    refine (arname_any k _).mono ?_
    rintro e W1 ⟨rfl, B1⟩
    rw [E.out]
    have t5 : (ByteArray.toList ⟨#[]⟩) = [] := by rw [Lib.toList_data]
    go_wp2
    go_ret
    exact ⟨_, rfl, World.ownsRow_nil _ _ _ _, B1⟩

end Go.Proofs.Ytpahohnpcfgegaa
