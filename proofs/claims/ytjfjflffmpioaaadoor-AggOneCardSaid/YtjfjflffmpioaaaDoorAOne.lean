/-
  The walk of AggOne.
-/
import Derived.Test.YtjfjflffmpioaaaDoorABig
namespace Go.Proofs.YtjfjflffmpioaaaDoor
namespace aggOne
open Go.RowKit Go.ChangeShapes Go.WideShapes Go.ChangeAt
set_option linter.unusedVariables false
set_option linter.unusedSimpArgs false

/-- Times rise, and can be. -/
def Up (R : List (Int × Int)) : Prop := R.Pairwise (fun u v => u.1 < v.1) ∧ ∀ u ∈ R, 0 ≤ u.1 ∧ u.1 < 1099511627776
theorem up_nil : Up [] := ⟨List.Pairwise.nil, fun u hu => by cases hu⟩
theorem up_snoc {R : List (Int × Int)} {t v : Int} (h : Up R) (ht : 0 ≤ t ∧ t < 1099511627776) (hl : R = [] ∨ tOf R (R.length - 1) < t) : Up (R ++ [(t, v)]) := by
  refine ⟨List.pairwise_append.2 ⟨h.1, List.pairwise_singleton _ _, fun u hu x hx => ?_⟩, fun u hu => ?_⟩
  · rw [List.mem_singleton] at hx
    subst hx
    rcases hl with rfl | hl
    · cases hu
    · obtain ⟨i, hi, rfl⟩ := List.mem_iff_getElem.1 hu
      have e : ∀ j (hj : j < R.length), R[j].1 = tOf R j := fun j hj => tOf_at R j hj
      simp only
      by_cases hlast : i = R.length - 1
      · rw [e i hi, hlast]; exact hl
      · have := List.pairwise_iff_getElem.1 h.1 i (R.length - 1) hi (by omega) (by omega)
        rw [e (R.length - 1) (by omega)] at this
        omega
  · rcases List.mem_append.1 hu with hu | hu
    · exact h.2 u hu
    · rw [List.mem_singleton] at hu; subst hu; exact ht
theorem all64_snoc {R : List (Int × Int)} {t v : Int} (h : All64 R) (ht : in64 t) (hv : in64 v) : All64 (R ++ [(t, v)]) := by
  intro u hu
  rcases List.mem_append.1 hu with hu | hu
  · exact h u hu
  · rw [List.mem_singleton] at hu; subst hu; exact ⟨ht, hv⟩
theorem tv_in {z : List (Int × Int)} (h : All64 z) (j : Nat) : in64 (tOf z j) := by
  unfold tOf
  rw [List.getD_eq_getElem?_getD]
  by_cases hj : j < z.length
  · rw [List.getElem?_eq_getElem hj]; exact (h _ (List.getElem_mem hj)).1
  · rw [List.getElem?_eq_none (by omega)]; simp [in64]
theorem up_ok {R : List (Int × Int)} (h : Up R) : okT R := fun u hu => by have := h.2 u hu; omega
/-- How many samples the first i groups have. -/
def cnt6 (G : List (Int × List (Int × Int))) (i : Nat) : Nat := ((G.take i).map fun g => g.2.length).sum
theorem cnt6_step (G : List (Int × List (Int × Int))) (i : Nat) (h : i < G.length) : cnt6 G (i + 1) = cnt6 G i + G[i].2.length := by
  unfold cnt6
  rw [List.take_succ_eq_append_getElem h, List.map_append, List.sum_append]
  simp
theorem cnt6_le (G : List (Int × List (Int × Int))) (i : Nat) : cnt6 G i ≤ (G.map fun g => g.2.length).sum := by
  unfold cnt6
  conv => rhs; rw [← List.take_append_drop i G]
  rw [List.map_append, List.sum_append]
  omega
theorem cnt6_all (G : List (Int × List (Int × Int))) : cnt6 G G.length = (G.map fun g => g.2.length).sum := by unfold cnt6; rw [List.take_length]
theorem at_buck (k size align : Int) (R : List (Int × Int)) (i : Nat) (h : i < (groups size align R).length) :
    tOf (buckL k size align R) i = ((groups size align R)[i]).1 ∧ vOf (buckL k size align R) i = valK k (valsOf ((groups size align R)[i]).2) := by
  have h' : i < (buckL k size align R).length := by rw [buck_len]; exact h
  have e : (buckL k size align R)[i] = (((groups size align R)[i]).1, valK k (valsOf ((groups size align R)[i]).2)) := by
    simp [buckL]
  unfold tOf vOf
  rw [List.getD_eq_getElem?_getD, List.getElem?_eq_getElem h', Option.getD_some, e]
  exact ⟨rfl, rfl⟩
/-- The samples of a bucket, among the first q. -/
def inB (R : List (Int × Int)) (b e : Int) (q : Nat) : List (Int × Int) := (R.take q).filter (fun u => decide (b ≤ u.1) && decide (u.1 < e))
theorem inB_yes {R : List (Int × Int)} {b e : Int} {q : Nat} (h : q < R.length) (h1 : b ≤ tOf R q) (h2 : tOf R q < e) : inB R b e (q + 1) = inB R b e q ++ [(tOf R q, vOf R q)] := by
  unfold inB
  rw [List.take_succ_eq_append_getElem h, List.filter_append]
  have e1 : R[q] = (tOf R q, vOf R q) := by unfold tOf vOf; rw [List.getD_eq_getElem?_getD, List.getElem?_eq_getElem h]; rfl
  rw [e1]
  simp [h1, h2]
theorem inB_no {R : List (Int × Int)} {b e : Int} {q : Nat} (h : q < R.length) (hn : ¬ (b ≤ tOf R q ∧ tOf R q < e)) : inB R b e (q + 1) = inB R b e q := by
  unfold inB
  rw [List.take_succ_eq_append_getElem h, List.filter_append]
  have e1 : R[q] = (tOf R q, vOf R q) := by unfold tOf vOf; rw [List.getD_eq_getElem?_getD, List.getElem?_eq_getElem h]; rfl
  rw [e1]
  have : (decide (b ≤ tOf R q) && decide (tOf R q < e)) = false := by
    rw [Bool.and_eq_false_iff]
    by_cases h1 : b ≤ tOf R q
    · exact .inr (decide_eq_false fun h2 => hn ⟨h1, h2⟩)
    · exact .inl (decide_eq_false h1)
  simp only [List.filter_cons, List.filter_nil, this]
  simp
theorem inB_few (R : List (Int × Int)) (b e : Int) (q : Nat) : (inB R b e q).length ≤ q := by
  unfold inB
  exact Nat.le_trans (List.length_filter_le _ _) (by rw [List.length_take]; omega)
theorem inB_64 {R : List (Int × Int)} (h : All64 R) (b e : Int) (q : Nat) : All64 (inB R b e q) := fun u hu => h u (List.mem_of_mem_take (List.mem_filter.1 hu).1)
/-- What the law asks of a bucket. -/
theorem of_group {k size align : Int} {R : List (Int × Int)} (hr : rightB size align) (h : Up R) (hk : kok k) {i : Nat} (hi : i < (groups size align R).length) :
    inB R ((groups size align R)[i]).1 (endB ((groups size align R)[i]).1 size align) R.length = ((groups size align R)[i]).2 ∧ startB ((groups size align R)[i]).1 size align = ((groups size align R)[i]).1 ∧ isK k (valsOf ((groups size align R)[i]).2) = true ∧
      (∀ p (hp : p < i), ((groups size align R)[p]'(by omega)).1 < ((groups size align R)[i]).1) ∧ ((groups size align R)[i]).2.length ≤ R.length := by
  have hm : (groups size align R)[i] ∈ groups size align R := List.getElem_mem hi
  refine ⟨?_, (groups_start hr (up_ok h) hm).1, ?_, fun p hp => ?_, group_len hm⟩
  · unfold inB
    rw [List.take_length]
    exact groups_in hr (up_ok h) h.1 hm
  · unfold isK
    rw [decide_eq_true (show 1 ≤ k ∧ k ≤ 7 from hk), decide_eq_true (show valsOf ((groups size align R)[i]).2 ≠ [] from fun e => (groups_mem hm).1 ((valsOf_nil _).1 e))]; rfl
  · exact List.pairwise_iff_getElem.1 (groups_rise hr (up_ok h) h.1) p i (by omega) hi hp

set_option maxRecDepth 100000 in
set_option maxHeartbeats 40000000 in
theorem walk0 (a0 : Int) (x : Int × Int) (a : Option Addr) (len cap : Nat) (z : List (Int × Int)) (w : World) (h : ANamesAt w) (ha0 : 0 ≤ a0 ∧ a0 ≤ 255) (hx0 : 0 ≤ x.1 ∧ x.1 ≤ 255) (hx1 : 0 ≤ x.2 ∧ x.2 ≤ 255) (hz : SampAt w a len cap z) :
    Calls Tryd.prog 8 #[.int .u8 a0, .agg #[.int .u8 x.1, .int .u8 x.2], .slice a len cap] w fun e w' => e = .returned (.bool true) ∧ Below w.heap.size w w' := by
  obtain ⟨x0, x1⟩ := x
  simp only at *
  obtain ⟨r, hr⟩ : ∃ r, x1 % (1 + x0) = r := ⟨_, rfl⟩
  have ht : x1.tmod (1 + x0) = r := by rw [Int.tmod_eq_emod_of_nonneg hx1.1]; exact hr
  have HR := Lib.hid (st_size hx0 hx1 hr)
  obtain ⟨kr, hkr⟩ : ∃ kr, a0 % 7 = kr := ⟨_, rfl⟩
  have htk : a0.tmod 7 = kr := by rw [Int.tmod_eq_emod_of_nonneg ha0.1]; exact hkr
  have HK0 := Lib.hid (show kok (1 + kr) from ⟨by omega, by omega⟩)
  have hkr0 : 0 ≤ kr := by omega
  have hkr6 : kr ≤ 6 := by omega
  obtain ⟨ha01, ha02⟩ := ha0
  obtain ⟨hx01, hx02⟩ := hx0
  obtain ⟨hx11, hx12⟩ := hx1
  have hne : 1 + x0 ≠ 0 := by omega
  have H := Lib.hid h
  have HZ := Lib.hid hz
  have hlen := hz.2.2.1
  have B0 := (Below.refl w.heap.size w).alloc (Nat.le_refl _) (.cells #[.int .u8 x0, .int .u8 x1] 50)
  clear h hz
  go_enter Tryd.func8, Tryd.ntmps8
  go_wp2
  generalize w.alloc (.cells #[.int .u8 x0, .int .u8 x1] 50) = W0 at *
  obtain ⟨sz, hsz⟩ : ∃ sz, 1 + x0 = sz := ⟨_, rfl⟩
  rw [hsz] at HR ⊢
  obtain ⟨k, hk⟩ : ∃ k, 1 + kr = k := ⟨_, rfl⟩
  rw [hk] at HK0 ⊢
  have HK := HK0
  clear hr ht hx11 hx12 hne hkr htk hkr0 hkr6 ha01 ha02 HK0 hk hsz hx01 hx02
  go_loopw [10, 11] (fun v i wr => ∃ (j : Nat) (R : List (Int × Int)), j ≤ len ∧ j ≤ 60 ∧ i = .int .i64 (j : Int) ∧ R.length ≤ j ∧ Hid (Up R) ∧ Hid (All64 R) ∧ wr.ownsRow w.heap.size 39 2 v R.length (smpCells R) ∧ Below w.heap.size w wr) (fun _ i _ => len - (intOf i).toNat)
  case atStart => exact ⟨0, [], Nat.zero_le _, by omega, rfl, Nat.le_refl _, Lib.hid up_nil, Lib.hid (fun u hu => by cases hu), World.ownsRow_nil _ _ _ _, B0⟩
  case round =>
    clear B0
    obtain ⟨j, R, hj, hj60, rfl, hRj, HU, HA, hown, B⟩ := hrel
    by_cases hjn : j < len ∧ j < 60
    · obtain ⟨hj1, hj2⟩ := hjn
      obtain ⟨p, o, rfl, hp, y0, y1⟩ := (HZ.out.keep B).at_ j hj1
      have HTI := Lib.hid (tv_in HZ.out.2.2.2.1 j)
      have HVI := Lib.hid (vOf_in HZ.out.2.2.2.1 j)
      generalize tOf z j = t at *
      generalize vOf z j = v at *
      obtain ⟨ad, cp, rfl, LI⟩ := row_samp HA.out (by omega) hown
      have HLI := Lib.hid LI
      obtain ⟨m, hm⟩ : ∃ m, R.length = m := ⟨_, rfl⟩
      have HM := Lib.hid hm
      rw [hm] at LI hown hRj ⊢
      clear hm LI
      have hm60 : m ≤ 60 := by omega
      have s3 := B.size
      by_cases q0 : 0 ≤ t
      · by_cases q1 : t < 1099511627776
        · by_cases hm0 : m = 0
          · have tz : ((m : Int) == 0) = true := by rw [hm0]; rfl
            have HM0 := Lib.hid (show R = [] from List.eq_nil_of_length_eq_zero (by rw [HM.out]; exact hm0))
            clear hm0
            go_wp2_with fail
            have HST := Lib.hid (show Up (R ++ [(t, v)]) from up_snoc HU.out ⟨q0, q1⟩ (.inl HM0.out))
            have HSA := Lib.hid (all64_snoc HA.out HTI.out HVI.out)
            go_quiet (fail)
            have d2 := (show Drew wr (wr.drewN nq) from ⟨nq, rfl⟩).below
            have B2 := B.trans (d2.mono B.size)
            have hown2 := own_keepN hown (gb_below d2)
            have z0 : (wr.drewN nq).cell? ⟨p, o + j * 2, none⟩ = some (.int .i64 t) := y0
            have z1 : (wr.drewN nq).cell? ⟨p, o + j * 2 + 1, none⟩ = some (.int .i64 v) := y1
            clear y0 y1 hown B d2 s3
            generalize wr.drewN nq = W2 at *
            have s3 := B2.size
            obtain ⟨i0, hi, hz0, hz1, hz2⟩ := info_parts info_samp
            go_wp2_with (at_builtin; refine wpList_append_own _ rfl _ _ 31 rfl w.heap.size 39 i0 _ 2 16 Tryd.underlying31 hi hz0 hz1 hz2 rfl (by decide) _ _ _ rfl (hown2.alloc _) ⟨W2.heap.size, 0, none⟩ 1 1 [.int .i64 t, .int .i64 v] rfl rfl (two_cells _ _ _ _) (smp_one _ _) (by unfold maxLen; omega) (by omega) (by simp; omega) ?_)
            intro v' W5 hown5 g5 _
            have B5 := (B2.alloc s3 (.cells #[.int .i64 t, .int .i64 v] 39)).grown g5 (by simp; omega) (fun k hk => (hown2.lt k hk).1)
            clear hown2 g5 hi hz0 hz1 hz2 z0 z1 B2 s3
            go_wp2
            go_roundw
            case rel => exact ⟨j + 1, R ++ [(t, v)], by omega, by omega, by go_num, by rw [List.length_append, List.length_singleton, HM.out]; omega, HST, HSA, by rw [List.length_append, List.length_singleton, HM.out, smpCells_snoc]; exact hown5, B5⟩
            case measure => (simp [intOf] <;> omega)
          · have tz : ((m : Int) == 0) = false := by rw [beq_eq_false_iff_ne]; omega
            obtain ⟨pm, hpm⟩ : ∃ pm : Nat, m = pm + 1 := ⟨m - 1, by omega⟩
            have hmp : (m : Int) - 1 = (pm : Int) := by omega
            have hpw : IntKind.i64.wrap (pm : Int) = (pm : Int) := by unfold IntKind.wrap; simp [IntKind.bits, IntKind.signed]; omega
            have hpm0 : (0 : Int) ≤ (pm : Int) := by omega
            have hpm1 : (pm : Int) < (m : Int) := by omega
            obtain ⟨p2, o2, e2, hp2, z0, z1⟩ := HLI.out.at_ pm (by rw [HM.out]; omega)
            subst e2
            obtain ⟨tl, htl⟩ : ∃ tl, tOf R pm = tl := ⟨_, rfl⟩
            rw [htl] at z0
            have HTL := Lib.hid (show tOf R (R.length - 1) = tl from by rw [HM.out, hpm]; exact htl)
            clear hm0 z1 htl hpm
            by_cases q2 : tl < t
            · go_wp2_with fail
              have HST := Lib.hid (show Up (R ++ [(t, v)]) from up_snoc HU.out ⟨q0, q1⟩ (.inr (by rw [HTL.out]; exact q2)))
              have HSA := Lib.hid (all64_snoc HA.out HTI.out HVI.out)
              go_quiet (fail)
              have d2 := (show Drew wr (wr.drewN nq) from ⟨nq, rfl⟩).below
              have B2 := B.trans (d2.mono B.size)
              have hown2 := own_keepN hown (gb_below d2)
              have z0 : (wr.drewN nq).cell? ⟨p, o + j * 2, none⟩ = some (.int .i64 t) := y0
              have z1 : (wr.drewN nq).cell? ⟨p, o + j * 2 + 1, none⟩ = some (.int .i64 v) := y1
              clear y0 y1 hown B d2 s3
              generalize wr.drewN nq = W2 at *
              have s3 := B2.size
              obtain ⟨i0, hi, hz0, hz1, hz2⟩ := info_parts info_samp
              go_wp2_with (at_builtin; refine wpList_append_own _ rfl _ _ 31 rfl w.heap.size 39 i0 _ 2 16 Tryd.underlying31 hi hz0 hz1 hz2 rfl (by decide) _ _ _ rfl (hown2.alloc _) ⟨W2.heap.size, 0, none⟩ 1 1 [.int .i64 t, .int .i64 v] rfl rfl (two_cells _ _ _ _) (smp_one _ _) (by unfold maxLen; omega) (by omega) (by simp; omega) ?_)
              intro v' W5 hown5 g5 _
              have B5 := (B2.alloc s3 (.cells #[.int .i64 t, .int .i64 v] 39)).grown g5 (by simp; omega) (fun k hk => (hown2.lt k hk).1)
              clear hown2 g5 hi hz0 hz1 hz2 z0 z1 B2 s3
              go_wp2
              go_roundw
              case rel => exact ⟨j + 1, R ++ [(t, v)], by omega, by omega, by go_num, by rw [List.length_append, List.length_singleton, HM.out]; omega, HST, HSA, by rw [List.length_append, List.length_singleton, HM.out, smpCells_snoc]; exact hown5, B5⟩
              case measure => (simp [intOf] <;> omega)
            · go_wp2_with fail
              go_quiet (fail)
              have d2 := (show Drew wr (wr.drewN nq) from ⟨nq, rfl⟩).below
              have B2 := B.trans (d2.mono B.size)
              have hown2 := own_keepN hown (gb_below d2)
              clear y0 y1 hown B d2 s3
              generalize wr.drewN nq = W2 at *
              go_wp2
              go_roundw
              case rel => exact ⟨j + 1, R, by omega, by omega, by go_num, by rw [HM.out]; omega, HU, HA, by rw [HM.out]; exact hown2, B2⟩
              case measure => (simp [intOf] <;> omega)
        · go_wp2_with fail
          have qn : ¬ t < 1099511627776 := by omega
          have tb : decide (t < 1099511627776) = false := decide_eq_false qn
          go_quiet (fail)
          have d2 := (show Drew wr (wr.drewN nq) from ⟨nq, rfl⟩).below
          have B2 := B.trans (d2.mono B.size)
          have hown2 := own_keepN hown (gb_below d2)
          clear y0 y1 hown B d2 s3
          generalize wr.drewN nq = W2 at *
          go_wp2
          go_roundw
          case rel => exact ⟨j + 1, R, by omega, by omega, by go_num, by rw [HM.out]; omega, HU, HA, by rw [HM.out]; exact hown2, B2⟩
          case measure => (simp [intOf] <;> omega)
      · go_wp2_with fail
        have qn : ¬ 0 ≤ t := by omega
        have tb : decide (0 ≤ t) = false := decide_eq_false qn
        go_quiet (fail)
        have d2 := (show Drew wr (wr.drewN nq) from ⟨nq, rfl⟩).below
        have B2 := B.trans (d2.mono B.size)
        have hown2 := own_keepN hown (gb_below d2)
        clear y0 y1 hown B d2 s3
        generalize wr.drewN nq = W2 at *
        go_wp2
        go_roundw
        case rel => exact ⟨j + 1, R, by omega, by omega, by go_num, by rw [HM.out]; omega, HU, HA, by rw [HM.out]; exact hown2, B2⟩
        case measure => (simp [intOf] <;> omega)
    · by_cases hj1 : j < len
      · have hj2 : ¬ ((j : Int) < 60) := by omega
        have hj1' : (j : Int) < (len : Int) := by omega
        obtain ⟨ad, cp, rfl, LI⟩ := row_samp HA.out (by omega) hown
        clear hown
        obtain ⟨m, hm⟩ : ∃ m, R.length = m := ⟨_, rfl⟩
        rw [hm] at LI hRj ⊢
        have HM := Lib.hid hm
        have hm60 : m ≤ 60 := by omega
        clear hm hjn
        have HLI := Lib.hid LI
        have HBA := Lib.hid (buckA_ok (k := k) (l := R) HK.out HR.out (up_ok HU.out))
        have HB64 := Lib.hid (buckL64 (k := k) (size := sz) (align := r) HA.out (by rw [HM.out]; omega))
        have HOG := Lib.hid (fun i hi => of_group (k := k) HR.out HU.out HK.out (i := i) hi)
        have HAT := Lib.hid (at_buck k sz r R)
        have HGL := Lib.hid (buck_len k sz r R)
        have HGF := Lib.hid (groups_few sz r R)
        have HGS := Lib.hid (groups_sum sz r R)
        go_wp2_with fail
        refine (buckets_any k sz r ad m cp R _ LI (by omega)).mono ?_
        rintro e W1 ⟨v1, rfl, o1, b1⟩
        rw [HBA.out] at o1
        have B1 := Lib.hid (B.trans (b1.mono B.size))
        have R1 := Lib.hid (HLI.out.keep b1)
        obtain ⟨bd, bp, rfl, L1⟩ := row_samp HB64.out (by rw [HGL.out]; have := HGF.out; rw [HM.out] at this; omega) o1
        rw [HGL.out] at L1 ⊢
        have HL1 := Lib.hid L1
        clear o1 b1 L1 LI B HLI
        obtain ⟨gl, hgl⟩ : ∃ gl, (groups sz r R).length = gl := ⟨_, rfl⟩
        rw [hgl] at HL1 ⊢
        have hg60 : gl ≤ 60 := by have := HGF.out; rw [HM.out, hgl] at this; omega
        have HGLN := Lib.hid hgl
        clear hgl
        go_wp2
        go_loopw [13, 14] (fun s i wx => ∃ q : Nat, q ≤ gl ∧ i = .int .i64 (q : Int) ∧ s = .int .i64 ((cnt6 (groups sz r R) q : Nat) : Int) ∧ Below W1.heap.size W1 wx) (fun _ i _ => gl - (intOf i).toNat)
        case atStart => exact ⟨0, Nat.zero_le _, rfl, rfl, Below.refl _ _⟩
        case round =>
          obtain ⟨q, hq, rfl, rfl, BX⟩ := hrel
          by_cases hqg : q < gl
          · have hqG : q < (groups sz r R).length := by rw [HGLN.out]; exact hqg
            have hog := HOG.out q hqG
            have hat := HAT.out q hqG
            have hcs := cnt6_step (groups sz r R) q hqG
            have hcl := cnt6_le (groups sz r R) (q + 1)
            rw [HGS.out, HM.out] at hcl
            have hprev : ∀ p (hp : p < q), tOf (buckL k sz r R) p < tOf (buckL k sz r R) q := fun p hp => by rw [hat.1, (HAT.out p (by omega)).1]; exact hog.2.2.2.1 p hp
            obtain ⟨gt, hgt⟩ : ∃ gt, ((groups sz r R)[q]).1 = gt := ⟨_, rfl⟩
            obtain ⟨gz, hgz⟩ : ∃ gz, ((groups sz r R)[q]).2 = gz := ⟨_, rfl⟩
            rw [hgz] at hcs
            rw [hgt, hgz] at hog hat
            obtain ⟨hog1, hog2, hog3, _, hog5⟩ := hog
            rw [hat.1] at hprev
            obtain ⟨bb, bo, rfl, hbb, hall⟩ := (HL1.out.keep BX).all (by omega)
            obtain ⟨g0, g1⟩ := hall q hqg
            rw [hat.1] at g0
            rw [hat.2] at g1
            have HALL := Lib.hid hall
            have HPR := Lib.hid hprev
            have HIN := Lib.hid hog1
            have HSE := Lib.hid hog2
            have HIK := Lib.hid hog3
            have HCS := Lib.hid hcs
            obtain ⟨cq, hcq⟩ : ∃ cq, cnt6 (groups sz r R) q = cq := ⟨_, rfl⟩
            rw [hcq] at HCS ⊢
            rw [hcs, hcq] at hcl
            rw [HM.out] at hog5
            obtain ⟨gn, hgn⟩ : ∃ gn, gz.length = gn := ⟨_, rfl⟩
            rw [hgn] at HCS hcl hog5
            have HGN := Lib.hid hgn
            clear hog1 hog2 hog3 hat hall hprev hgt hgz hcs hcq hgn
            have tgg : (gt != gt) = false := by simp
            have HKP := Lib.hid (show ∀ W, Below wr.heap.size wr W → W.cell? ⟨bb, bo + q * 2, none⟩ = some (.int .i64 gt) ∧ W.cell? ⟨bb, bo + q * 2 + 1, none⟩ = some (.int .i64 (valK k (valsOf gz))) from fun W hW => ⟨by rw [hW.cell hbb]; exact g0, by rw [hW.cell hbb]; exact g1⟩)
            have key : ∃ pv : Int, (0 < q → pv < gt ∧ wr.cell? ⟨bb, bo + (q - 1) * 2, none⟩ = some (.int .i64 pv)) := by
              by_cases hq0 : 0 < q
              · exact ⟨_, fun _ => ⟨HPR.out (q - 1) (by omega), (HALL.out (q - 1) (by omega)).1⟩⟩
              · exact ⟨0, fun h => absurd h hq0⟩
            obtain ⟨pv, hpv⟩ := key
            have HPV := Lib.hid hpv
            clear hpv g1
            obtain ⟨vk, hvk⟩ : ∃ vk, valK k (valsOf gz) = vk := ⟨_, rfl⟩
            rw [hvk] at HKP
            have HVK := Lib.hid hvk
            clear hvk
            obtain ⟨ge, hge⟩ : ∃ ge, endB gt sz r = ge := ⟨_, rfl⟩
            rw [hge] at HIN
            have HGE := Lib.hid hge
            clear hge
            clear tgg
            by_cases hq0 : 0 < q
            · obtain ⟨hpv1, hpv2⟩ := HPV.out hq0
              obtain ⟨qm, hqm⟩ : ∃ qm : Nat, q = qm + 1 := ⟨q - 1, by omega⟩
              have hqmi : (q : Int) - 1 = (qm : Int) := by omega
              have hqw : IntKind.i64.wrap (qm : Int) = (qm : Int) := by unfold IntKind.wrap; simp [IntKind.bits, IntKind.signed]; omega
              have hqm0 : (0 : Int) ≤ (qm : Int) := by omega
              have hqm1 : (qm : Int) < (gl : Int) := by omega
              rw [show q - 1 = qm from by omega] at hpv2
              clear hqm
              go_wp2_with fail
              have tgs : (startB gt sz r != gt) = false := by rw [HSE.out]; simp
              have hqp : (0 : Int) < (q : Int) := by omega
              have tq : decide (0 < (q : Int)) = true := decide_eq_true hqp
              have tl : decide (gt ≤ pv) = false := decide_eq_false (by omega)
              have tn : ¬ gt ≤ pv := by omega
              go_quiet (first | (with_reducible exact quietL (start_any gt sz r _)))
              clear hpv2
              have d2 := (show Drew wr (wr.drewN nq) from ⟨nq, rfl⟩).below
              have BY := BX.trans (d2.mono BX.size)
              have hbb2 : bb < (wr.drewN nq).heap.size := hbb
              have hk2 := HKP.out _ d2
              clear d2 BX HKP HPV HPR HALL g0 hbb
              generalize wr.drewN nq = W2 at *
              have HKQ := Lib.hid (show ∀ W, Below W2.heap.size W2 W → W.cell? ⟨bb, bo + q * 2, none⟩ = some (.int .i64 gt) ∧ W.cell? ⟨bb, bo + q * 2 + 1, none⟩ = some (.int .i64 vk) from fun W hW => ⟨by rw [hW.cell hbb2]; exact hk2.1, by rw [hW.cell hbb2]; exact hk2.2⟩)
              have R2 := Lib.hid (R1.out.keep BY)
              have BYH := Lib.hid BY
              clear hk2 BY
              go_wp2
              go_loopw [15, 16] (fun v i wy => ∃ p : Nat, p ≤ m ∧ i = .int .i64 (p : Int) ∧ wy.ownsRow W2.heap.size 39 2 v (inB R gt ge p).length (smpCells (inB R gt ge p)) ∧ Below W2.heap.size W2 wy) (fun _ i _ => m - (intOf i).toNat)
              case atStart => exact ⟨0, Nat.zero_le _, rfl, World.ownsRow_nil _ _ _ _, Below.refl _ _⟩
              case round =>
                obtain ⟨p, hp, rfl, hown, BZ⟩ := hrel
                obtain ⟨g0, g1⟩ := HKQ.out _ BZ
                by_cases hpm : p < m
                · obtain ⟨pb, po, ea, hpb, x0, x1⟩ := (R2.out.keep BZ).at_ p hpm
                  subst ea
                  obtain ⟨t, ht⟩ : ∃ t, tOf R p = t := ⟨_, rfl⟩
                  obtain ⟨v, hv⟩ : ∃ v, vOf R p = v := ⟨_, rfl⟩
                  rw [ht] at x0
                  rw [hv] at x1
                  have HT0 := Lib.hid ht
                  have HT1 := Lib.hid hv
                  have hfew := inB_few R gt ge p
                  clear ht hv
                  by_cases c0 : gt ≤ t
                  · by_cases c1 : t < ge
                    · go_wp2_with fail
                      have tc0 : decide (gt ≤ t) = true := decide_eq_true (by omega)
                      have tc1 : decide (t < endB gt sz r) = true := decide_eq_true (by rw [HGE.out]; omega)
                      have HST := Lib.hid (inB_yes (R := R) (b := gt) (e := ge) (q := p) (by rw [HM.out]; exact hpm) (by rw [HT0.out]; exact c0) (by rw [HT0.out]; exact c1))
                      rw [HT0.out, HT1.out] at HST
                      go_quiet (first | (with_reducible exact quietL (end_any gt sz r _)))
                      have d3 := (show Drew wr (wr.drewN nq) from ⟨nq, rfl⟩).below
                      have B3 := BZ.trans (d3.mono BZ.size)
                      have hown3 := own_keepN hown (gb_below d3)
                      have z0 : (wr.drewN nq).cell? ⟨pb, po + p * 2, none⟩ = some (.int .i64 t) := x0
                      have z1 : (wr.drewN nq).cell? ⟨pb, po + p * 2 + 1, none⟩ = some (.int .i64 v) := x1
                      clear x0 x1 hown BZ d3 g0 g1
                      generalize wr.drewN nq = W3 at *
                      have s3 := B3.size
                      obtain ⟨i0, hi, hz0, hz1, hz2⟩ := info_parts info_samp
                      go_wp2_with (at_builtin; refine wpList_append_own _ rfl _ _ 31 rfl W2.heap.size 39 i0 _ 2 16 Tryd.underlying31 hi hz0 hz1 hz2 rfl (by decide) _ _ _ rfl (hown3.alloc _) ⟨W3.heap.size, 0, none⟩ 1 1 [.int .i64 t, .int .i64 v] rfl rfl (two_cells _ _ _ _) (smp_one _ _) (by unfold maxLen; omega) (by omega) (by simp; omega) ?_)
                      intro v' W5 hown5 g5 _
                      have B5 := (B3.alloc s3 (.cells #[.int .i64 t, .int .i64 v] 39)).grown g5 (by simp; omega) (fun k hk => (hown3.lt k hk).1)
                      clear hown3 g5 hi hz0 hz1 hz2 z0 z1 B3 s3
                      go_wp2
                      go_roundw
                      case rel => exact ⟨p + 1, by omega, by go_num, by rw [HST.out, List.length_append, List.length_singleton, smpCells_snoc]; exact hown5, B5⟩
                      case measure => (simp [intOf] <;> omega)
                    · go_wp2_with fail
                      have tc0 : decide (gt ≤ t) = true := decide_eq_true (by omega)
                      have tc1 : decide (t < endB gt sz r) = false := decide_eq_false (by rw [HGE.out]; omega)
                      have HST := Lib.hid (inB_no (R := R) (b := gt) (e := ge) (q := p) (by rw [HM.out]; exact hpm) (by rw [HT0.out]; omega))
                      go_quiet (first | (with_reducible exact quietL (end_any gt sz r _)))
                      have d3 := (show Drew wr (wr.drewN nq) from ⟨nq, rfl⟩).below
                      have B3 := BZ.trans (d3.mono BZ.size)
                      have hown3 := own_keepN hown (gb_below d3)
                      clear x0 x1 hown BZ d3 g0 g1
                      generalize wr.drewN nq = W3 at *
                      go_wp2
                      go_roundw
                      case rel => exact ⟨p + 1, by omega, by go_num, by rw [HST.out]; exact hown3, B3⟩
                      case measure => (simp [intOf] <;> omega)
                  · go_wp2_with fail
                    have tc0 : decide (gt ≤ t) = false := decide_eq_false (by omega)
                    have tc2 : ¬ gt ≤ t := by omega
                    have HST := Lib.hid (inB_no (R := R) (b := gt) (e := ge) (q := p) (by rw [HM.out]; exact hpm) (by rw [HT0.out]; omega))
                    go_quiet (first | (with_reducible exact quietL (end_any gt sz r _)))
                    have d3 := (show Drew wr (wr.drewN nq) from ⟨nq, rfl⟩).below
                    have B3 := BZ.trans (d3.mono BZ.size)
                    have hown3 := own_keepN hown (gb_below d3)
                    clear x0 x1 hown BZ d3 g0 g1
                    generalize wr.drewN nq = W3 at *
                    go_wp2
                    go_roundw
                    case rel => exact ⟨p + 1, by omega, by go_num, by rw [HST.out]; exact hown3, B3⟩
                    case measure => (simp [intOf] <;> omega)
                · obtain rfl : p = m := by omega
                  have hin : inB R gt ge p = gz := by rw [← HIN.out, HM.out]
                  have h64 := inB_64 HA.out gt ge p
                  rw [hin] at hown h64
                  rw [HGN.out] at hown
                  have hown' : wr.ownsRow W2.heap.size 39 2 u15 gz.length (smpCells gz) := by rw [HGN.out]; exact hown
                  obtain ⟨id, ip, rfl, LJ⟩ := row_samp h64 (by rw [HGN.out]; omega) hown'
                  rw [HGN.out] at LJ ⊢
                  clear hin h64 hown hown' hpm
                  go_wp2_with fail
                  refine (fold_any k id gn ip gz _ LJ (by omega)).mono ?_
                  rintro e W6 ⟨rfl, b6⟩
                  have B6 := BZ.trans (b6.mono BZ.size)
                  obtain ⟨k0, k1⟩ := HKQ.out _ B6
                  have B7 := BYH.out.trans (B6.mono BYH.out.size)
                  rw [HVK.out, HIK.out]
                  clear LJ b6 BZ g0 g1 B6 k0
                  unfold tell
                  have tvv : (vk != vk) = false := by simp
                  go_wp2
                  go_roundw
                  case rel => exact ⟨q + 1, by omega, by go_num, by rw [HCS.out]; push_cast; rfl, B7⟩
                  case measure => (simp [intOf] <;> omega)
            · go_wp2_with fail
              have tgs : (startB gt sz r != gt) = false := by rw [HSE.out]; simp
              have hqp : ¬ (0 : Int) < (q : Int) := by omega
              have tq : decide (0 < (q : Int)) = false := decide_eq_false hqp
              go_quiet (first | (with_reducible exact quietL (start_any gt sz r _)))
              have d2 := (show Drew wr (wr.drewN nq) from ⟨nq, rfl⟩).below
              have BY := BX.trans (d2.mono BX.size)
              have hbb2 : bb < (wr.drewN nq).heap.size := hbb
              have hk2 := HKP.out _ d2
              clear d2 BX HKP HPV HPR HALL g0 hbb
              generalize wr.drewN nq = W2 at *
              have HKQ := Lib.hid (show ∀ W, Below W2.heap.size W2 W → W.cell? ⟨bb, bo + q * 2, none⟩ = some (.int .i64 gt) ∧ W.cell? ⟨bb, bo + q * 2 + 1, none⟩ = some (.int .i64 vk) from fun W hW => ⟨by rw [hW.cell hbb2]; exact hk2.1, by rw [hW.cell hbb2]; exact hk2.2⟩)
              have R2 := Lib.hid (R1.out.keep BY)
              have BYH := Lib.hid BY
              clear hk2 BY
              go_wp2
              go_loopw [15, 16] (fun v i wy => ∃ p : Nat, p ≤ m ∧ i = .int .i64 (p : Int) ∧ wy.ownsRow W2.heap.size 39 2 v (inB R gt ge p).length (smpCells (inB R gt ge p)) ∧ Below W2.heap.size W2 wy) (fun _ i _ => m - (intOf i).toNat)
              case atStart => exact ⟨0, Nat.zero_le _, rfl, World.ownsRow_nil _ _ _ _, Below.refl _ _⟩
              case round =>
                obtain ⟨p, hp, rfl, hown, BZ⟩ := hrel
                obtain ⟨g0, g1⟩ := HKQ.out _ BZ
                by_cases hpm : p < m
                · obtain ⟨pb, po, ea, hpb, x0, x1⟩ := (R2.out.keep BZ).at_ p hpm
                  subst ea
                  obtain ⟨t, ht⟩ : ∃ t, tOf R p = t := ⟨_, rfl⟩
                  obtain ⟨v, hv⟩ : ∃ v, vOf R p = v := ⟨_, rfl⟩
                  rw [ht] at x0
                  rw [hv] at x1
                  have HT0 := Lib.hid ht
                  have HT1 := Lib.hid hv
                  have hfew := inB_few R gt ge p
                  clear ht hv
                  by_cases c0 : gt ≤ t
                  · by_cases c1 : t < ge
                    · go_wp2_with fail
                      have tc0 : decide (gt ≤ t) = true := decide_eq_true (by omega)
                      have tc1 : decide (t < endB gt sz r) = true := decide_eq_true (by rw [HGE.out]; omega)
                      have HST := Lib.hid (inB_yes (R := R) (b := gt) (e := ge) (q := p) (by rw [HM.out]; exact hpm) (by rw [HT0.out]; exact c0) (by rw [HT0.out]; exact c1))
                      rw [HT0.out, HT1.out] at HST
                      go_quiet (first | (with_reducible exact quietL (end_any gt sz r _)))
                      have d3 := (show Drew wr (wr.drewN nq) from ⟨nq, rfl⟩).below
                      have B3 := BZ.trans (d3.mono BZ.size)
                      have hown3 := own_keepN hown (gb_below d3)
                      have z0 : (wr.drewN nq).cell? ⟨pb, po + p * 2, none⟩ = some (.int .i64 t) := x0
                      have z1 : (wr.drewN nq).cell? ⟨pb, po + p * 2 + 1, none⟩ = some (.int .i64 v) := x1
                      clear x0 x1 hown BZ d3 g0 g1
                      generalize wr.drewN nq = W3 at *
                      have s3 := B3.size
                      obtain ⟨i0, hi, hz0, hz1, hz2⟩ := info_parts info_samp
                      go_wp2_with (at_builtin; refine wpList_append_own _ rfl _ _ 31 rfl W2.heap.size 39 i0 _ 2 16 Tryd.underlying31 hi hz0 hz1 hz2 rfl (by decide) _ _ _ rfl (hown3.alloc _) ⟨W3.heap.size, 0, none⟩ 1 1 [.int .i64 t, .int .i64 v] rfl rfl (two_cells _ _ _ _) (smp_one _ _) (by unfold maxLen; omega) (by omega) (by simp; omega) ?_)
                      intro v' W5 hown5 g5 _
                      have B5 := (B3.alloc s3 (.cells #[.int .i64 t, .int .i64 v] 39)).grown g5 (by simp; omega) (fun k hk => (hown3.lt k hk).1)
                      clear hown3 g5 hi hz0 hz1 hz2 z0 z1 B3 s3
                      go_wp2
                      go_roundw
                      case rel => exact ⟨p + 1, by omega, by go_num, by rw [HST.out, List.length_append, List.length_singleton, smpCells_snoc]; exact hown5, B5⟩
                      case measure => (simp [intOf] <;> omega)
                    · go_wp2_with fail
                      have tc0 : decide (gt ≤ t) = true := decide_eq_true (by omega)
                      have tc1 : decide (t < endB gt sz r) = false := decide_eq_false (by rw [HGE.out]; omega)
                      have HST := Lib.hid (inB_no (R := R) (b := gt) (e := ge) (q := p) (by rw [HM.out]; exact hpm) (by rw [HT0.out]; omega))
                      go_quiet (first | (with_reducible exact quietL (end_any gt sz r _)))
                      have d3 := (show Drew wr (wr.drewN nq) from ⟨nq, rfl⟩).below
                      have B3 := BZ.trans (d3.mono BZ.size)
                      have hown3 := own_keepN hown (gb_below d3)
                      clear x0 x1 hown BZ d3 g0 g1
                      generalize wr.drewN nq = W3 at *
                      go_wp2
                      go_roundw
                      case rel => exact ⟨p + 1, by omega, by go_num, by rw [HST.out]; exact hown3, B3⟩
                      case measure => (simp [intOf] <;> omega)
                  · go_wp2_with fail
                    have tc0 : decide (gt ≤ t) = false := decide_eq_false (by omega)
                    have tc2 : ¬ gt ≤ t := by omega
                    have HST := Lib.hid (inB_no (R := R) (b := gt) (e := ge) (q := p) (by rw [HM.out]; exact hpm) (by rw [HT0.out]; omega))
                    go_quiet (first | (with_reducible exact quietL (end_any gt sz r _)))
                    have d3 := (show Drew wr (wr.drewN nq) from ⟨nq, rfl⟩).below
                    have B3 := BZ.trans (d3.mono BZ.size)
                    have hown3 := own_keepN hown (gb_below d3)
                    clear x0 x1 hown BZ d3 g0 g1
                    generalize wr.drewN nq = W3 at *
                    go_wp2
                    go_roundw
                    case rel => exact ⟨p + 1, by omega, by go_num, by rw [HST.out]; exact hown3, B3⟩
                    case measure => (simp [intOf] <;> omega)
                · obtain rfl : p = m := by omega
                  have hin : inB R gt ge p = gz := by rw [← HIN.out, HM.out]
                  have h64 := inB_64 HA.out gt ge p
                  rw [hin] at hown h64
                  rw [HGN.out] at hown
                  have hown' : wr.ownsRow W2.heap.size 39 2 u15 gz.length (smpCells gz) := by rw [HGN.out]; exact hown
                  obtain ⟨id, ip, rfl, LJ⟩ := row_samp h64 (by rw [HGN.out]; omega) hown'
                  rw [HGN.out] at LJ ⊢
                  clear hin h64 hown hown' hpm
                  go_wp2_with fail
                  refine (fold_any k id gn ip gz _ LJ (by omega)).mono ?_
                  rintro e W6 ⟨rfl, b6⟩
                  have B6 := BZ.trans (b6.mono BZ.size)
                  obtain ⟨k0, k1⟩ := HKQ.out _ B6
                  have B7 := BYH.out.trans (B6.mono BYH.out.size)
                  rw [HVK.out, HIK.out]
                  clear LJ b6 BZ g0 g1 B6 k0
                  unfold tell
                  have tvv : (vk != vk) = false := by simp
                  go_wp2
                  go_roundw
                  case rel => exact ⟨q + 1, by omega, by go_num, by rw [HCS.out]; push_cast; rfl, B7⟩
                  case measure => (simp [intOf] <;> omega)
          · obtain rfl : q = gl := by omega
            have hall : cnt6 (groups sz r R) q = m := by
              have := cnt6_all (groups sz r R)
              rw [HGLN.out] at this
              rw [this, HGS.out, HM.out]
            rw [hall]
            clear hall hqg
            have tmm : ((m : Int) == (m : Int)) = true := by simp
            have BF := B1.out.trans (BX.mono B1.out.size)
            go_wp2_with fail
            refine (aknown_any _ (H.out.below BF)).mono ?_
            rintro e W8 ⟨rfl, b8⟩
            have B8 := bel_gbn BF BF.size (gb_below b8)
            go_wp2
            go_ret
            exact ⟨rfl, B8⟩
      · have hj1' : ¬ ((j : Int) < (len : Int)) := by omega
        clear hj1
        obtain ⟨ad, cp, rfl, LI⟩ := row_samp HA.out (by omega) hown
        clear hown
        obtain ⟨m, hm⟩ : ∃ m, R.length = m := ⟨_, rfl⟩
        rw [hm] at LI hRj ⊢
        have HM := Lib.hid hm
        have hm60 : m ≤ 60 := by omega
        clear hm hjn
        have HLI := Lib.hid LI
        have HBA := Lib.hid (buckA_ok (k := k) (l := R) HK.out HR.out (up_ok HU.out))
        have HB64 := Lib.hid (buckL64 (k := k) (size := sz) (align := r) HA.out (by rw [HM.out]; omega))
        have HOG := Lib.hid (fun i hi => of_group (k := k) HR.out HU.out HK.out (i := i) hi)
        have HAT := Lib.hid (at_buck k sz r R)
        have HGL := Lib.hid (buck_len k sz r R)
        have HGF := Lib.hid (groups_few sz r R)
        have HGS := Lib.hid (groups_sum sz r R)
        go_wp2_with fail
        refine (buckets_any k sz r ad m cp R _ LI (by omega)).mono ?_
        rintro e W1 ⟨v1, rfl, o1, b1⟩
        rw [HBA.out] at o1
        have B1 := Lib.hid (B.trans (b1.mono B.size))
        have R1 := Lib.hid (HLI.out.keep b1)
        obtain ⟨bd, bp, rfl, L1⟩ := row_samp HB64.out (by rw [HGL.out]; have := HGF.out; rw [HM.out] at this; omega) o1
        rw [HGL.out] at L1 ⊢
        have HL1 := Lib.hid L1
        clear o1 b1 L1 LI B HLI
        obtain ⟨gl, hgl⟩ : ∃ gl, (groups sz r R).length = gl := ⟨_, rfl⟩
        rw [hgl] at HL1 ⊢
        have hg60 : gl ≤ 60 := by have := HGF.out; rw [HM.out, hgl] at this; omega
        have HGLN := Lib.hid hgl
        clear hgl
        go_wp2
        go_loopw [13, 14] (fun s i wx => ∃ q : Nat, q ≤ gl ∧ i = .int .i64 (q : Int) ∧ s = .int .i64 ((cnt6 (groups sz r R) q : Nat) : Int) ∧ Below W1.heap.size W1 wx) (fun _ i _ => gl - (intOf i).toNat)
        case atStart => exact ⟨0, Nat.zero_le _, rfl, rfl, Below.refl _ _⟩
        case round =>
          obtain ⟨q, hq, rfl, rfl, BX⟩ := hrel
          by_cases hqg : q < gl
          · have hqG : q < (groups sz r R).length := by rw [HGLN.out]; exact hqg
            have hog := HOG.out q hqG
            have hat := HAT.out q hqG
            have hcs := cnt6_step (groups sz r R) q hqG
            have hcl := cnt6_le (groups sz r R) (q + 1)
            rw [HGS.out, HM.out] at hcl
            have hprev : ∀ p (hp : p < q), tOf (buckL k sz r R) p < tOf (buckL k sz r R) q := fun p hp => by rw [hat.1, (HAT.out p (by omega)).1]; exact hog.2.2.2.1 p hp
            obtain ⟨gt, hgt⟩ : ∃ gt, ((groups sz r R)[q]).1 = gt := ⟨_, rfl⟩
            obtain ⟨gz, hgz⟩ : ∃ gz, ((groups sz r R)[q]).2 = gz := ⟨_, rfl⟩
            rw [hgz] at hcs
            rw [hgt, hgz] at hog hat
            obtain ⟨hog1, hog2, hog3, _, hog5⟩ := hog
            rw [hat.1] at hprev
            obtain ⟨bb, bo, rfl, hbb, hall⟩ := (HL1.out.keep BX).all (by omega)
            obtain ⟨g0, g1⟩ := hall q hqg
            rw [hat.1] at g0
            rw [hat.2] at g1
            have HALL := Lib.hid hall
            have HPR := Lib.hid hprev
            have HIN := Lib.hid hog1
            have HSE := Lib.hid hog2
            have HIK := Lib.hid hog3
            have HCS := Lib.hid hcs
            obtain ⟨cq, hcq⟩ : ∃ cq, cnt6 (groups sz r R) q = cq := ⟨_, rfl⟩
            rw [hcq] at HCS ⊢
            rw [hcs, hcq] at hcl
            rw [HM.out] at hog5
            obtain ⟨gn, hgn⟩ : ∃ gn, gz.length = gn := ⟨_, rfl⟩
            rw [hgn] at HCS hcl hog5
            have HGN := Lib.hid hgn
            clear hog1 hog2 hog3 hat hall hprev hgt hgz hcs hcq hgn
            have tgg : (gt != gt) = false := by simp
            have HKP := Lib.hid (show ∀ W, Below wr.heap.size wr W → W.cell? ⟨bb, bo + q * 2, none⟩ = some (.int .i64 gt) ∧ W.cell? ⟨bb, bo + q * 2 + 1, none⟩ = some (.int .i64 (valK k (valsOf gz))) from fun W hW => ⟨by rw [hW.cell hbb]; exact g0, by rw [hW.cell hbb]; exact g1⟩)
            have key : ∃ pv : Int, (0 < q → pv < gt ∧ wr.cell? ⟨bb, bo + (q - 1) * 2, none⟩ = some (.int .i64 pv)) := by
              by_cases hq0 : 0 < q
              · exact ⟨_, fun _ => ⟨HPR.out (q - 1) (by omega), (HALL.out (q - 1) (by omega)).1⟩⟩
              · exact ⟨0, fun h => absurd h hq0⟩
            obtain ⟨pv, hpv⟩ := key
            have HPV := Lib.hid hpv
            clear hpv g1
            obtain ⟨vk, hvk⟩ : ∃ vk, valK k (valsOf gz) = vk := ⟨_, rfl⟩
            rw [hvk] at HKP
            have HVK := Lib.hid hvk
            clear hvk
            obtain ⟨ge, hge⟩ : ∃ ge, endB gt sz r = ge := ⟨_, rfl⟩
            rw [hge] at HIN
            have HGE := Lib.hid hge
            clear hge
            clear tgg
            by_cases hq0 : 0 < q
            · obtain ⟨hpv1, hpv2⟩ := HPV.out hq0
              obtain ⟨qm, hqm⟩ : ∃ qm : Nat, q = qm + 1 := ⟨q - 1, by omega⟩
              have hqmi : (q : Int) - 1 = (qm : Int) := by omega
              have hqw : IntKind.i64.wrap (qm : Int) = (qm : Int) := by unfold IntKind.wrap; simp [IntKind.bits, IntKind.signed]; omega
              have hqm0 : (0 : Int) ≤ (qm : Int) := by omega
              have hqm1 : (qm : Int) < (gl : Int) := by omega
              rw [show q - 1 = qm from by omega] at hpv2
              clear hqm
              go_wp2_with fail
              have tgs : (startB gt sz r != gt) = false := by rw [HSE.out]; simp
              have hqp : (0 : Int) < (q : Int) := by omega
              have tq : decide (0 < (q : Int)) = true := decide_eq_true hqp
              have tl : decide (gt ≤ pv) = false := decide_eq_false (by omega)
              have tn : ¬ gt ≤ pv := by omega
              go_quiet (first | (with_reducible exact quietL (start_any gt sz r _)))
              clear hpv2
              have d2 := (show Drew wr (wr.drewN nq) from ⟨nq, rfl⟩).below
              have BY := BX.trans (d2.mono BX.size)
              have hbb2 : bb < (wr.drewN nq).heap.size := hbb
              have hk2 := HKP.out _ d2
              clear d2 BX HKP HPV HPR HALL g0 hbb
              generalize wr.drewN nq = W2 at *
              have HKQ := Lib.hid (show ∀ W, Below W2.heap.size W2 W → W.cell? ⟨bb, bo + q * 2, none⟩ = some (.int .i64 gt) ∧ W.cell? ⟨bb, bo + q * 2 + 1, none⟩ = some (.int .i64 vk) from fun W hW => ⟨by rw [hW.cell hbb2]; exact hk2.1, by rw [hW.cell hbb2]; exact hk2.2⟩)
              have R2 := Lib.hid (R1.out.keep BY)
              have BYH := Lib.hid BY
              clear hk2 BY
              go_wp2
              go_loopw [15, 16] (fun v i wy => ∃ p : Nat, p ≤ m ∧ i = .int .i64 (p : Int) ∧ wy.ownsRow W2.heap.size 39 2 v (inB R gt ge p).length (smpCells (inB R gt ge p)) ∧ Below W2.heap.size W2 wy) (fun _ i _ => m - (intOf i).toNat)
              case atStart => exact ⟨0, Nat.zero_le _, rfl, World.ownsRow_nil _ _ _ _, Below.refl _ _⟩
              case round =>
                obtain ⟨p, hp, rfl, hown, BZ⟩ := hrel
                obtain ⟨g0, g1⟩ := HKQ.out _ BZ
                by_cases hpm : p < m
                · obtain ⟨pb, po, ea, hpb, x0, x1⟩ := (R2.out.keep BZ).at_ p hpm
                  subst ea
                  obtain ⟨t, ht⟩ : ∃ t, tOf R p = t := ⟨_, rfl⟩
                  obtain ⟨v, hv⟩ : ∃ v, vOf R p = v := ⟨_, rfl⟩
                  rw [ht] at x0
                  rw [hv] at x1
                  have HT0 := Lib.hid ht
                  have HT1 := Lib.hid hv
                  have hfew := inB_few R gt ge p
                  clear ht hv
                  by_cases c0 : gt ≤ t
                  · by_cases c1 : t < ge
                    · go_wp2_with fail
                      have tc0 : decide (gt ≤ t) = true := decide_eq_true (by omega)
                      have tc1 : decide (t < endB gt sz r) = true := decide_eq_true (by rw [HGE.out]; omega)
                      have HST := Lib.hid (inB_yes (R := R) (b := gt) (e := ge) (q := p) (by rw [HM.out]; exact hpm) (by rw [HT0.out]; exact c0) (by rw [HT0.out]; exact c1))
                      rw [HT0.out, HT1.out] at HST
                      go_quiet (first | (with_reducible exact quietL (end_any gt sz r _)))
                      have d3 := (show Drew wr (wr.drewN nq) from ⟨nq, rfl⟩).below
                      have B3 := BZ.trans (d3.mono BZ.size)
                      have hown3 := own_keepN hown (gb_below d3)
                      have z0 : (wr.drewN nq).cell? ⟨pb, po + p * 2, none⟩ = some (.int .i64 t) := x0
                      have z1 : (wr.drewN nq).cell? ⟨pb, po + p * 2 + 1, none⟩ = some (.int .i64 v) := x1
                      clear x0 x1 hown BZ d3 g0 g1
                      generalize wr.drewN nq = W3 at *
                      have s3 := B3.size
                      obtain ⟨i0, hi, hz0, hz1, hz2⟩ := info_parts info_samp
                      go_wp2_with (at_builtin; refine wpList_append_own _ rfl _ _ 31 rfl W2.heap.size 39 i0 _ 2 16 Tryd.underlying31 hi hz0 hz1 hz2 rfl (by decide) _ _ _ rfl (hown3.alloc _) ⟨W3.heap.size, 0, none⟩ 1 1 [.int .i64 t, .int .i64 v] rfl rfl (two_cells _ _ _ _) (smp_one _ _) (by unfold maxLen; omega) (by omega) (by simp; omega) ?_)
                      intro v' W5 hown5 g5 _
                      have B5 := (B3.alloc s3 (.cells #[.int .i64 t, .int .i64 v] 39)).grown g5 (by simp; omega) (fun k hk => (hown3.lt k hk).1)
                      clear hown3 g5 hi hz0 hz1 hz2 z0 z1 B3 s3
                      go_wp2
                      go_roundw
                      case rel => exact ⟨p + 1, by omega, by go_num, by rw [HST.out, List.length_append, List.length_singleton, smpCells_snoc]; exact hown5, B5⟩
                      case measure => (simp [intOf] <;> omega)
                    · go_wp2_with fail
                      have tc0 : decide (gt ≤ t) = true := decide_eq_true (by omega)
                      have tc1 : decide (t < endB gt sz r) = false := decide_eq_false (by rw [HGE.out]; omega)
                      have HST := Lib.hid (inB_no (R := R) (b := gt) (e := ge) (q := p) (by rw [HM.out]; exact hpm) (by rw [HT0.out]; omega))
                      go_quiet (first | (with_reducible exact quietL (end_any gt sz r _)))
                      have d3 := (show Drew wr (wr.drewN nq) from ⟨nq, rfl⟩).below
                      have B3 := BZ.trans (d3.mono BZ.size)
                      have hown3 := own_keepN hown (gb_below d3)
                      clear x0 x1 hown BZ d3 g0 g1
                      generalize wr.drewN nq = W3 at *
                      go_wp2
                      go_roundw
                      case rel => exact ⟨p + 1, by omega, by go_num, by rw [HST.out]; exact hown3, B3⟩
                      case measure => (simp [intOf] <;> omega)
                  · go_wp2_with fail
                    have tc0 : decide (gt ≤ t) = false := decide_eq_false (by omega)
                    have tc2 : ¬ gt ≤ t := by omega
                    have HST := Lib.hid (inB_no (R := R) (b := gt) (e := ge) (q := p) (by rw [HM.out]; exact hpm) (by rw [HT0.out]; omega))
                    go_quiet (first | (with_reducible exact quietL (end_any gt sz r _)))
                    have d3 := (show Drew wr (wr.drewN nq) from ⟨nq, rfl⟩).below
                    have B3 := BZ.trans (d3.mono BZ.size)
                    have hown3 := own_keepN hown (gb_below d3)
                    clear x0 x1 hown BZ d3 g0 g1
                    generalize wr.drewN nq = W3 at *
                    go_wp2
                    go_roundw
                    case rel => exact ⟨p + 1, by omega, by go_num, by rw [HST.out]; exact hown3, B3⟩
                    case measure => (simp [intOf] <;> omega)
                · obtain rfl : p = m := by omega
                  have hin : inB R gt ge p = gz := by rw [← HIN.out, HM.out]
                  have h64 := inB_64 HA.out gt ge p
                  rw [hin] at hown h64
                  rw [HGN.out] at hown
                  have hown' : wr.ownsRow W2.heap.size 39 2 u15 gz.length (smpCells gz) := by rw [HGN.out]; exact hown
                  obtain ⟨id, ip, rfl, LJ⟩ := row_samp h64 (by rw [HGN.out]; omega) hown'
                  rw [HGN.out] at LJ ⊢
                  clear hin h64 hown hown' hpm
                  go_wp2_with fail
                  refine (fold_any k id gn ip gz _ LJ (by omega)).mono ?_
                  rintro e W6 ⟨rfl, b6⟩
                  have B6 := BZ.trans (b6.mono BZ.size)
                  obtain ⟨k0, k1⟩ := HKQ.out _ B6
                  have B7 := BYH.out.trans (B6.mono BYH.out.size)
                  rw [HVK.out, HIK.out]
                  clear LJ b6 BZ g0 g1 B6 k0
                  unfold tell
                  have tvv : (vk != vk) = false := by simp
                  go_wp2
                  go_roundw
                  case rel => exact ⟨q + 1, by omega, by go_num, by rw [HCS.out]; push_cast; rfl, B7⟩
                  case measure => (simp [intOf] <;> omega)
            · go_wp2_with fail
              have tgs : (startB gt sz r != gt) = false := by rw [HSE.out]; simp
              have hqp : ¬ (0 : Int) < (q : Int) := by omega
              have tq : decide (0 < (q : Int)) = false := decide_eq_false hqp
              go_quiet (first | (with_reducible exact quietL (start_any gt sz r _)))
              have d2 := (show Drew wr (wr.drewN nq) from ⟨nq, rfl⟩).below
              have BY := BX.trans (d2.mono BX.size)
              have hbb2 : bb < (wr.drewN nq).heap.size := hbb
              have hk2 := HKP.out _ d2
              clear d2 BX HKP HPV HPR HALL g0 hbb
              generalize wr.drewN nq = W2 at *
              have HKQ := Lib.hid (show ∀ W, Below W2.heap.size W2 W → W.cell? ⟨bb, bo + q * 2, none⟩ = some (.int .i64 gt) ∧ W.cell? ⟨bb, bo + q * 2 + 1, none⟩ = some (.int .i64 vk) from fun W hW => ⟨by rw [hW.cell hbb2]; exact hk2.1, by rw [hW.cell hbb2]; exact hk2.2⟩)
              have R2 := Lib.hid (R1.out.keep BY)
              have BYH := Lib.hid BY
              clear hk2 BY
              go_wp2
              go_loopw [15, 16] (fun v i wy => ∃ p : Nat, p ≤ m ∧ i = .int .i64 (p : Int) ∧ wy.ownsRow W2.heap.size 39 2 v (inB R gt ge p).length (smpCells (inB R gt ge p)) ∧ Below W2.heap.size W2 wy) (fun _ i _ => m - (intOf i).toNat)
              case atStart => exact ⟨0, Nat.zero_le _, rfl, World.ownsRow_nil _ _ _ _, Below.refl _ _⟩
              case round =>
                obtain ⟨p, hp, rfl, hown, BZ⟩ := hrel
                obtain ⟨g0, g1⟩ := HKQ.out _ BZ
                by_cases hpm : p < m
                · obtain ⟨pb, po, ea, hpb, x0, x1⟩ := (R2.out.keep BZ).at_ p hpm
                  subst ea
                  obtain ⟨t, ht⟩ : ∃ t, tOf R p = t := ⟨_, rfl⟩
                  obtain ⟨v, hv⟩ : ∃ v, vOf R p = v := ⟨_, rfl⟩
                  rw [ht] at x0
                  rw [hv] at x1
                  have HT0 := Lib.hid ht
                  have HT1 := Lib.hid hv
                  have hfew := inB_few R gt ge p
                  clear ht hv
                  by_cases c0 : gt ≤ t
                  · by_cases c1 : t < ge
                    · go_wp2_with fail
                      have tc0 : decide (gt ≤ t) = true := decide_eq_true (by omega)
                      have tc1 : decide (t < endB gt sz r) = true := decide_eq_true (by rw [HGE.out]; omega)
                      have HST := Lib.hid (inB_yes (R := R) (b := gt) (e := ge) (q := p) (by rw [HM.out]; exact hpm) (by rw [HT0.out]; exact c0) (by rw [HT0.out]; exact c1))
                      rw [HT0.out, HT1.out] at HST
                      go_quiet (first | (with_reducible exact quietL (end_any gt sz r _)))
                      have d3 := (show Drew wr (wr.drewN nq) from ⟨nq, rfl⟩).below
                      have B3 := BZ.trans (d3.mono BZ.size)
                      have hown3 := own_keepN hown (gb_below d3)
                      have z0 : (wr.drewN nq).cell? ⟨pb, po + p * 2, none⟩ = some (.int .i64 t) := x0
                      have z1 : (wr.drewN nq).cell? ⟨pb, po + p * 2 + 1, none⟩ = some (.int .i64 v) := x1
                      clear x0 x1 hown BZ d3 g0 g1
                      generalize wr.drewN nq = W3 at *
                      have s3 := B3.size
                      obtain ⟨i0, hi, hz0, hz1, hz2⟩ := info_parts info_samp
                      go_wp2_with (at_builtin; refine wpList_append_own _ rfl _ _ 31 rfl W2.heap.size 39 i0 _ 2 16 Tryd.underlying31 hi hz0 hz1 hz2 rfl (by decide) _ _ _ rfl (hown3.alloc _) ⟨W3.heap.size, 0, none⟩ 1 1 [.int .i64 t, .int .i64 v] rfl rfl (two_cells _ _ _ _) (smp_one _ _) (by unfold maxLen; omega) (by omega) (by simp; omega) ?_)
                      intro v' W5 hown5 g5 _
                      have B5 := (B3.alloc s3 (.cells #[.int .i64 t, .int .i64 v] 39)).grown g5 (by simp; omega) (fun k hk => (hown3.lt k hk).1)
                      clear hown3 g5 hi hz0 hz1 hz2 z0 z1 B3 s3
                      go_wp2
                      go_roundw
                      case rel => exact ⟨p + 1, by omega, by go_num, by rw [HST.out, List.length_append, List.length_singleton, smpCells_snoc]; exact hown5, B5⟩
                      case measure => (simp [intOf] <;> omega)
                    · go_wp2_with fail
                      have tc0 : decide (gt ≤ t) = true := decide_eq_true (by omega)
                      have tc1 : decide (t < endB gt sz r) = false := decide_eq_false (by rw [HGE.out]; omega)
                      have HST := Lib.hid (inB_no (R := R) (b := gt) (e := ge) (q := p) (by rw [HM.out]; exact hpm) (by rw [HT0.out]; omega))
                      go_quiet (first | (with_reducible exact quietL (end_any gt sz r _)))
                      have d3 := (show Drew wr (wr.drewN nq) from ⟨nq, rfl⟩).below
                      have B3 := BZ.trans (d3.mono BZ.size)
                      have hown3 := own_keepN hown (gb_below d3)
                      clear x0 x1 hown BZ d3 g0 g1
                      generalize wr.drewN nq = W3 at *
                      go_wp2
                      go_roundw
                      case rel => exact ⟨p + 1, by omega, by go_num, by rw [HST.out]; exact hown3, B3⟩
                      case measure => (simp [intOf] <;> omega)
                  · go_wp2_with fail
                    have tc0 : decide (gt ≤ t) = false := decide_eq_false (by omega)
                    have tc2 : ¬ gt ≤ t := by omega
                    have HST := Lib.hid (inB_no (R := R) (b := gt) (e := ge) (q := p) (by rw [HM.out]; exact hpm) (by rw [HT0.out]; omega))
                    go_quiet (first | (with_reducible exact quietL (end_any gt sz r _)))
                    have d3 := (show Drew wr (wr.drewN nq) from ⟨nq, rfl⟩).below
                    have B3 := BZ.trans (d3.mono BZ.size)
                    have hown3 := own_keepN hown (gb_below d3)
                    clear x0 x1 hown BZ d3 g0 g1
                    generalize wr.drewN nq = W3 at *
                    go_wp2
                    go_roundw
                    case rel => exact ⟨p + 1, by omega, by go_num, by rw [HST.out]; exact hown3, B3⟩
                    case measure => (simp [intOf] <;> omega)
                · obtain rfl : p = m := by omega
                  have hin : inB R gt ge p = gz := by rw [← HIN.out, HM.out]
                  have h64 := inB_64 HA.out gt ge p
                  rw [hin] at hown h64
                  rw [HGN.out] at hown
                  have hown' : wr.ownsRow W2.heap.size 39 2 u15 gz.length (smpCells gz) := by rw [HGN.out]; exact hown
                  obtain ⟨id, ip, rfl, LJ⟩ := row_samp h64 (by rw [HGN.out]; omega) hown'
                  rw [HGN.out] at LJ ⊢
                  clear hin h64 hown hown' hpm
                  go_wp2_with fail
                  refine (fold_any k id gn ip gz _ LJ (by omega)).mono ?_
                  rintro e W6 ⟨rfl, b6⟩
                  have B6 := BZ.trans (b6.mono BZ.size)
                  obtain ⟨k0, k1⟩ := HKQ.out _ B6
                  have B7 := BYH.out.trans (B6.mono BYH.out.size)
                  rw [HVK.out, HIK.out]
                  clear LJ b6 BZ g0 g1 B6 k0
                  unfold tell
                  have tvv : (vk != vk) = false := by simp
                  go_wp2
                  go_roundw
                  case rel => exact ⟨q + 1, by omega, by go_num, by rw [HCS.out]; push_cast; rfl, B7⟩
                  case measure => (simp [intOf] <;> omega)
          · obtain rfl : q = gl := by omega
            have hall : cnt6 (groups sz r R) q = m := by
              have := cnt6_all (groups sz r R)
              rw [HGLN.out] at this
              rw [this, HGS.out, HM.out]
            rw [hall]
            clear hall hqg
            have tmm : ((m : Int) == (m : Int)) = true := by simp
            have BF := B1.out.trans (BX.mono B1.out.size)
            go_wp2_with fail
            refine (aknown_any _ (H.out.below BF)).mono ?_
            rintro e W8 ⟨rfl, b8⟩
            have B8 := bel_gbn BF BF.size (gb_below b8)
            go_wp2
            go_ret
            exact ⟨rfl, B8⟩

end aggOne
end Go.Proofs.YtjfjflffmpioaaaDoor
