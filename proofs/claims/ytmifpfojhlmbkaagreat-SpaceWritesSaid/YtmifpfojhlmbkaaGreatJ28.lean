/-
  Contracts.
-/
import Derived.Test.YtmifpfojhlmbkaaGreatJ25
namespace Go.Proofs.YtmifpfojhlmbkaaGreat
open Lib (hid)
set_option maxRecDepth 100000
set_option maxHeartbeats 16000000
open Go.RowKit Go.Shelf
set_option linter.unusedVariables false
set_option linter.unusedSimpArgs false
theorem tOf_at (z : List (Int × Int)) (j : Nat) (h : j < z.length) : z[j].1 = tOf z j := by
  unfold tOf
  rw [List.getD_eq_getElem?_getD, List.getElem?_eq_getElem h]; rfl
theorem okT_step {z : List (Int × Int)} {j : Nat} (h : j < z.length) (h1 : okT (z.take j)) (h2 : canT (tOf z j) = true) : okT (z.take (j + 1)) := by
  rw [List.take_succ_eq_append_getElem h]
  intro u hu
  rcases List.mem_append.1 hu with hu | hu
  · exact h1 u hu
  · rw [List.mem_singleton] at hu
    subst hu
    rw [tOf_at z j h]
    exact of_decide_eq_true h2
theorem okT_not {z : List (Int × Int)} {j : Nat} (h : j < z.length) (h2 : canT (tOf z j) = false) : ¬ okT z := by
  intro hk
  have := hk _ (List.getElem_mem h)
  rw [tOf_at z j h] at this
  exact of_decide_eq_false h2 this
theorem canall_any (a : Option Addr) (len cap : Nat) (z : List (Int × Int)) (w : World) (h : SampAt w a len cap z) :
    Calls Tryz.prog 274 #[.slice a len cap] w fun e w' => e = .returned (.bool (decide (okT z))) ∧ Below w.heap.size w w' := by
  have HL := hid h.1
  have b1 := h.2.2.1
  have HS := hid h
  clear h
  go_enter Tryz.func274, Tryz.ntmps274
  go_wp2
  go_loopw [7] (fun i wr => ∃ j : Nat, j ≤ len ∧ i = .int .i64 (j : Int) ∧ Hid (okT (z.take j)) ∧ Below w.heap.size w wr) (fun i _ => len - (intOf i).toNat)
  case atStart => exact ⟨0, Nat.zero_le _, rfl, hid (fun u hu => by simp at hu), Below.refl _ _⟩
  case round =>
    obtain ⟨j, hj, rfl, HT, B⟩ := hrel
    by_cases hjn : j < len
    · obtain ⟨p, o, rfl, hp, x0, x1⟩ := (HS.out.keep B).at_ j hjn
      have HY := hid (okT_step (z := z) (j := j) (by rw [HL.out]; exact hjn) HT.out)
      have HN := hid (okT_not (z := z) (j := j) (by rw [HL.out]; exact hjn))
      generalize tOf z j = t at *
      generalize vOf z j = v at *
      go_wp2_with fail
      have B2 := B.alloc B.size (.cells #[.int .i64 t, .int .i64 v] 27)
      generalize wr.alloc (.cells #[.int .i64 t, .int .i64 v] 27) = W2 at *
      refine (canhold_any t _).mono ?_
      rintro e W3 ⟨rfl, rfl⟩
      cases hc : canT t
      · have E := hid (HN.out hc)
        clear HY HN hc x0 x1
        go_wp2
        go_ret
        exact ⟨ret_bool (decide_eq_false E.out).symm, B2⟩
      · have E := hid (HY.out hc)
        clear HY HN hc x0 x1
        go_wp2
        go_roundw
        case rel => exact ⟨j + 1, by omega, by go_num, E, B2⟩
        case measure => simp [intOf]; omega
    · obtain rfl : j = len := by omega
      have E := hid (show okT z from by have := HT.out; rwa [List.take_of_length_le (by rw [HL.out]; exact Nat.le_refl _)] at this)
      go_wp2
      go_ret
      exact ⟨ret_bool (decide_eq_true E.out).symm, B⟩
def TogP (size align : Int) (z : List (Int × Int)) (m : Nat) : Prop :=
  m ≤ z.length ∧ (∀ i, i < m → startB (tOf z i) size align = startB (tOf z 0) size align) ∧ (m = z.length ∨ startB (tOf z m) size align ≠ startB (tOf z 0) size align)
theorem together_any (size align : Int) (a : Option Addr) (len cap : Nat) (z : List (Int × Int)) (w : World) (h : SampAt w a len cap z) :
    Calls Tryz.prog 275 #[.int .i64 size, .int .i64 align, .slice a len cap] w fun e w' => ∃ m : Nat, e = .returned (.int .i64 (m : Int)) ∧ TogP size align z m ∧ Below w.heap.size w w' := by
  have HL := hid h.1
  have b1 := h.2.2.1
  have HS := hid h
  clear h
  go_enter Tryz.func275, Tryz.ntmps275
  go_wp2
  go_loopw [11] (fun i wr => ∃ j : Nat, j ≤ len ∧ i = .int .i64 (j : Int) ∧ Hid (∀ i, i < j → startB (tOf z i) size align = startB (tOf z 0) size align) ∧ Below w.heap.size w wr) (fun i _ => len - (intOf i).toNat)
  case atStart => exact ⟨0, Nat.zero_le _, rfl, hid (fun i hi => by omega), Below.refl _ _⟩
  case round =>
    obtain ⟨j, hj, rfl, HT, B⟩ := hrel
    by_cases hjn : j < len
    · obtain ⟨p, o, ha, hp, hall⟩ := (HS.out.keep B).all (by omega)
      obtain ⟨x0, x1⟩ := hall j hjn
      obtain ⟨y0, y1⟩ := hall 0 (by omega)
      subst ha
      clear hall
      obtain ⟨t, ht⟩ : ∃ t, tOf z j = t := ⟨_, rfl⟩
      obtain ⟨u, hu⟩ : ∃ u, tOf z 0 = u := ⟨_, rfl⟩
      generalize vOf z j = v at *
      rw [ht] at x0
      rw [hu] at y0
      have HTJ := hid ht
      have HU := hid hu
      clear ht hu y1
      go_wp2_with fail
      have B2 := B.alloc B.size (.cells #[.int .i64 t, .int .i64 v] 27)
      have hn := heap_new wr (.cells #[.int .i64 t, .int .i64 v] 27)
      have hpn : p < wr.heap.size := hp
      have y2 : (wr.alloc (.cells #[.int .i64 t, .int .i64 v] 27)).cell? ⟨p, o + 0 * 2, none⟩ = some (.int .i64 u) := by
        rw [((Below.refl wr.heap.size wr).alloc (Nat.le_refl _) _).cell hpn]; exact y0
      generalize hq : wr.heap.size = q at *
      generalize wr.alloc (.cells #[.int .i64 t, .int .i64 v] 27) = W2 at *
      have n0 : W2.cell? ⟨q, 0, none⟩ = some (.int .i64 t) := by rw [cell_of hn]; rfl
      clear hn x0 x1 y0 B hq
      rw [Nat.zero_mul, Nat.add_zero] at y2
      by_cases he : startB t size align = startB u size align
      · have tb : (startB t size align != startB u size align) = false := by rw [bne_eq_false_iff_eq]; exact he
        have HT2 := hid (show ∀ i, i < j + 1 → startB (tOf z i) size align = startB (tOf z 0) size align from fun i hi => by
          by_cases e : i = j
          · subst e; rw [HTJ.out, HU.out]; exact he
          · exact HT.out i (by omega))
        clear he HT
        go_quiet (first | (with_reducible exact quietL (start_any t size align _)) | (with_reducible exact quietL (start_any u size align _)))
        have B3 := B2.trans ((show Drew W2 (W2.drewN nq) from ⟨nq, rfl⟩).below.mono B2.size)
        generalize W2.drewN nq = W3 at *
        clear n0 y2 B2
        go_wp2
        go_roundw
        case rel => exact ⟨j + 1, by omega, by go_num, HT2, B3⟩
        case measure => simp [intOf]; omega
      · have tb : (startB t size align != startB u size align) = true := by rw [bne_iff_ne]; exact he
        have HN := hid he
        clear he
        go_quiet (first | (with_reducible exact quietL (start_any t size align _)) | (with_reducible exact quietL (start_any u size align _)))
        have B3 := B2.trans ((show Drew W2 (W2.drewN nq) from ⟨nq, rfl⟩).below.mono B2.size)
        generalize W2.drewN nq = W3 at *
        clear n0 y2 B2
        go_wp2
        go_ret
        exact ⟨j, rfl, ⟨by rw [HL.out]; omega, HT.out, .inr (by rw [HTJ.out, HU.out]; exact HN.out)⟩, B3⟩
    · obtain rfl : j = len := by omega
      go_wp2
      go_ret
      exact ⟨j, rfl, ⟨by rw [HL.out]; exact Nat.le_refl _, HT.out, .inl HL.out.symm⟩, B⟩
theorem snd_take (z : List (Int × Int)) (n m : Nat) : z.take (n + m) = z.take n ++ (z.drop n).take m := by rw [List.take_add]
theorem tOf_drop (z : List (Int × Int)) (n i : Nat) : tOf (z.drop n) i = tOf z (n + i) := by unfold tOf; rw [List.getD_eq_getElem?_getD, List.getD_eq_getElem?_getD, List.getElem?_drop]
theorem buck_step {k size align : Int} {z : List (Int × Int)} {n m : Nat} (hn : n < z.length) (hB : ∀ g ∈ (groups size align (z.take n)).getLast?, g.1 ≠ startB (tOf z n) size align) (ht : TogP size align (z.drop n) m) :
    1 ≤ m ∧ n + m ≤ z.length ∧ buckL k size align (z.take (n + m)) = buckL k size align (z.take n) ++ [(startB (tOf z n) size align, valK k (valsOf ((z.drop n).take m)))] ∧
      (n + m < z.length → ∀ g ∈ (groups size align (z.take (n + m))).getLast?, g.1 ≠ startB (tOf z (n + m)) size align) := by
  obtain ⟨h1, h2, h3⟩ := ht
  rw [List.length_drop] at h1 h3
  have hm : 1 ≤ m := by
    rcases Nat.eq_zero_or_pos m with rfl | h
    · rcases h3 with h3 | h3
      · omega
      · exact absurd rfl h3
    · exact h
  have e0 : tOf (z.drop n) 0 = tOf z n := by rw [tOf_drop, Nat.add_zero]
  have hg : groups size align (z.take (n + m)) = groups size align (z.take n) ++ [(startB (tOf z n) size align, (z.drop n).take m)] := by
    rw [snd_take]
    refine grp_block hB _ ?_ ?_
    · intro e
      have := congrArg List.length e
      rw [List.length_take, List.length_drop] at this
      simp at this
      omega
    · intro u hu
      obtain ⟨i, hi, e⟩ := List.mem_iff_getElem.1 hu
      have hi2 : i < m := by rw [List.length_take] at hi; omega
      have hi3 : i < (z.drop n).length := by rw [List.length_take] at hi; omega
      rw [List.getElem_take] at e
      have := h2 i hi2
      rw [e0] at this
      rw [← this, ← tOf_at _ i hi3, e]
  refine ⟨hm, by omega, ?_, fun hlt g hg' => ?_⟩
  · unfold buckL
    rw [hg, List.map_append]; rfl
  · rw [hg, List.getLast?_append, List.getLast?_singleton] at hg'
    simp at hg'
    subst hg'
    rcases h3 with h3 | h3
    · omega
    · rw [tOf_drop, e0] at h3
      exact fun e => h3 e.symm
theorem buck_few (k size align : Int) (z : List (Int × Int)) : (buckL k size align z).length ≤ z.length := by rw [buck_len]; exact groups_few _ _ _
theorem own_keepN {w w' : World} {base : Nat} {e : TypeId} {size : Nat} {v : Value} {n : Nat} {xs : List Value} (h : w.ownsRow base e size v n xs) (g : w.grownBy w' none) : w'.ownsRow base e size v n xs :=
  h.kept g (by cases v.ownBlock <;> simp)
theorem smp_one (x y : Int) : ∀ u ∈ [Value.int .i64 x, Value.int .i64 y], u.oneCell' = true := by
  intro u hu
  simp at hu
  rcases hu with rfl | rfl <;> rfl
def RowA (B : List (Int × Int)) (w : World) (e : Ending) (w' : World) : Prop := ∃ v, e = .returned v ∧ w'.ownsRow w.heap.size 27 2 v B.length (smpCells B) ∧ Below w.heap.size w w'
theorem buckets_ok (k size align : Int) (a : Option Addr) (len cap : Nat) (z : List (Int × Int)) (w : World) (h : SampAt w a len cap z) (hl : len ≤ 1048576) (hk : kok k) (hr : rightB size align) (ht : okT z) :
    Calls Tryz.prog 220 #[.int .i64 k, .int .i64 size, .int .i64 align, .slice a len cap] w (RowA (buckL k size align z) w) := by
  have HL := hid h.1
  have hlc := h.2.1
  have b1 := h.2.2.1
  have HS := hid h
  have HK := hid hk
  have HR := hid hr
  have HT := hid ht
  have HI := hid (info_samp)
  clear h hk hr ht
  go_enter Tryz.func220, Tryz.ntmps220
  go_wp2_with fail
  refine (aright_any k _).mono ?_
  rintro e w' ⟨rfl, rfl⟩
  rw [decide_eq_true HK.out]
  go_wp2_with fail
  refine (cancut_any _ _ _).mono ?_
  rintro e w' ⟨rfl, rfl⟩
  rw [decide_eq_true HR.out]
  go_wp2_with fail
  refine (canall_any a len cap z _ HS.out).mono ?_
  rintro e W1 ⟨rfl, B1⟩
  rw [decide_eq_true HT.out]
  go_wp2
  go_loopw [3, 9] (fun s v wr => ∃ (n : Nat) (a' : Option Addr), n ≤ len ∧ s = .slice a' (len - n) (cap - n) ∧ Hid (SampAt w a' (len - n) (cap - n) (z.drop n)) ∧ wr.ownsRow w.heap.size 27 2 v (buckL k size align (z.take n)).length (smpCells (buckL k size align (z.take n))) ∧ Hid (n < z.length → ∀ g ∈ (groups size align (z.take n)).getLast?, g.1 ≠ startB (tOf z n) size align) ∧ Below w.heap.size w wr) (fun s _ _ => (lenV s))
  case atStart => exact ⟨0, a, Nat.zero_le _, rfl, HS, World.ownsRow_nil _ _ _ _, hid (fun _ g hg => by simp [groups, grp] at hg), B1⟩
  case round =>
    clear B1
    obtain ⟨n, a', hn, rfl, HSN, hown, HB, B⟩ := hrel
    by_cases hnl : n < len
    · have hpos : (0 : Int) < ((len - n : Nat) : Int) := by omega
      go_wp2_with fail
      refine (together_any size align a' (len - n) (cap - n) (z.drop n) _ (HSN.out.keep B)).mono ?_
      rintro e W2 ⟨m, rfl, htg, b2⟩
      obtain ⟨hm, hnm, hbk, hnx⟩ := buck_step (k := k) (by rw [HL.out]; exact hnl) (HB.out (by rw [HL.out]; exact hnl)) htg
      have HBK := hid hbk
      have HNX := hid hnx
      rw [HL.out] at hnm
      have hown2 := own_keepN hown (gb_below b2)
      have B2 := bel_gbn B B.size (gb_below b2)
      obtain ⟨a1, hs1, L1⟩ := samp_to HSN.out m (by omega)
      obtain ⟨a2, hs2, L2⟩ := samp_from HSN.out m (by omega)
      have HL1 := hid L1
      have HL2 := hid L2
      have HF := hid hs2
      clear htg hbk hnx b2 B hown HB L1 L2 hs2
      go_wp2_with fail
      refine (fold_any k a1 m (cap - n) ((z.drop n).take m) _ (HL1.out.keep B2) (by omega)).mono ?_
      rintro e W3 ⟨rfl, b3⟩
      have hown3 := own_keepN hown2 (gb_below b3)
      have B3 := bel_gbn B2 B2.size (gb_below b3)
      clear b3 B2 hown2 hs1
      obtain ⟨x, hx⟩ : ∃ x, valK k (valsOf ((z.drop n).take m)) = x := ⟨_, rfl⟩
      obtain ⟨y, hy⟩ : ∃ y, isK k (valsOf ((z.drop n).take m)) = y := ⟨_, rfl⟩
      rw [hx] at HBK ⊢
      rw [hy]
      clear hx hy
      unfold tell
      obtain ⟨p, o, rfl, hp, y0, y1⟩ := (HSN.out.keep B3).at_ 0 (by omega)
      rw [show tOf (z.drop n) 0 = tOf z n from by rw [tOf_drop, Nat.add_zero], show o + 0 * 2 = o from by omega] at y0
      generalize tOf z n = t at *
      clear y1
      go_wp2_with fail
      refine (start_any t size align _).mono ?_
      rintro e w' ⟨rfl, rfl⟩
      generalize startB t size align = st at *
      obtain ⟨i0, hi, hz0, hz1, hz2⟩ := info_parts info_samp
      have hbl := buck_few k size align (z.take n)
      rw [List.length_take] at hbl
      have s3 := B3.size
      generalize hL : buckL k size align (z.take n) = L at *
      go_wp2_with (at_builtin; refine wpList_append_own _ rfl _ _ 52 rfl w.heap.size 27 i0 _ 2 16 Tryz.underlying52 hi hz0 hz1 hz2 rfl (by decide) _ _ _ rfl (hown3.alloc _) ⟨W3.heap.size, 0, none⟩ 1 1 [.int .i64 st, .int .i64 x] rfl rfl (two_cells _ _ _ _) (smp_one _ _) (by unfold maxLen; omega) (by omega) (by simp; omega) ?_)
      intro v' W5 hown5 g5 _
      have B5 := (B3.alloc s3 (.cells #[.int .i64 st, .int .i64 x] 27)).grown g5 (by simp; omega) (fun k hk => (hown3.lt k hk).1)
      have hs2 := HF.out
      clear hown3 g5 hi hz0 hz1 hz2 y0 B3 s3 hL
      go_wp2
      go_roundw
      case rel =>
        refine ⟨n + m, a2, by omega, ?_, ?_, ?_, ?_, B5⟩
        · rw [Nat.sub_sub, Nat.sub_sub]
        · have := HL2.out
          rw [List.drop_drop, Nat.sub_sub, Nat.sub_sub] at this
          exact hid this
        · rw [HBK.out, List.length_append, List.length_singleton, smpCells_snoc]
          exact hown5
        · exact HNX
      case measure => simp [lenV]; omega
    · obtain rfl : n = len := by omega
      rw [List.take_of_length_le (by rw [HL.out]; exact Nat.le_refl _)] at hown
      have hz : ¬ ((0 : Int) < ((n - n : Nat) : Int)) := by omega
      go_wp2
      go_ret
      exact ⟨_, rfl, hown, B⟩
theorem buckets_any (k size align : Int) (a : Option Addr) (len cap : Nat) (z : List (Int × Int)) (w : World) (h : SampAt w a len cap z) (hl : len ≤ 1048576) :
    Calls Tryz.prog 220 #[.int .i64 k, .int .i64 size, .int .i64 align, .slice a len cap] w (RowA (buckA k size align z) w) := by
  by_cases hk : kok k
  · by_cases hr : rightB size align
    · by_cases ht : okT z
      · rw [buckA_ok hk hr ht]
        exact buckets_ok k size align a len cap z w h hl hk hr ht
      · rw [show buckA k size align z = [] from by unfold buckA; rw [if_neg (fun h => ht h.2.2)]]
        have HK := hid hk
        have HR := hid hr
        have HT := hid ht
        have HS := hid h
        clear hk hr ht h
        go_enter Tryz.func220, Tryz.ntmps220
        go_wp2_with fail
        refine (aright_any k _).mono ?_
        rintro e w' ⟨rfl, rfl⟩
        rw [decide_eq_true HK.out]
        go_wp2_with fail
        refine (cancut_any _ _ _).mono ?_
        rintro e w' ⟨rfl, rfl⟩
        rw [decide_eq_true HR.out]
        go_wp2_with fail
        refine (canall_any a len cap z _ HS.out).mono ?_
        rintro e W1 ⟨rfl, B1⟩
        rw [decide_eq_false HT.out]
        go_wp2
        go_ret
        exact ⟨_, rfl, World.ownsRow_nil _ _ _ _, B1⟩
    · rw [show buckA k size align z = [] from by unfold buckA; rw [if_neg (fun h => hr h.2.1)]]
      have HK := hid hk
      have HR := hid hr
      clear hk hr h
      go_enter Tryz.func220, Tryz.ntmps220
      go_wp2_with fail
      refine (aright_any k _).mono ?_
      rintro e w' ⟨rfl, rfl⟩
      rw [decide_eq_true HK.out]
      go_wp2_with fail
      refine (cancut_any _ _ _).mono ?_
      rintro e w' ⟨rfl, rfl⟩
      rw [decide_eq_false HR.out]
      go_wp2
      go_ret
      exact ⟨_, rfl, World.ownsRow_nil _ _ _ _, Below.refl _ _⟩
  · rw [show buckA k size align z = [] from by unfold buckA; rw [if_neg (fun h => hk h.1)]]
    have HK := hid hk
    clear hk h
    go_enter Tryz.func220, Tryz.ntmps220
    go_wp2_with fail
    refine (aright_any k _).mono ?_
    rintro e w' ⟨rfl, rfl⟩
    rw [decide_eq_false HK.out]
    go_wp2
    go_ret
    exact ⟨_, rfl, World.ownsRow_nil _ _ _ _, Below.refl _ _⟩
end Go.Proofs.YtmifpfojhlmbkaaGreat
