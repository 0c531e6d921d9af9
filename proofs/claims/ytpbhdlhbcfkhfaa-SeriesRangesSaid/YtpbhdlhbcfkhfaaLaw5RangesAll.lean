/-
  The statement 'SeriesRanges' of layer 5: for every calls and every three times, a range of times is the range of its first part, and of its second part; back it is the same the other way round; a range of one time has its sample.
  No condition.
-/
import Derived.Test.YtpbhdlhbcfkhfaaSUse
import Derived.Test.YtpbhdlhbcfkhfaaSKnown
import Derived.Test.YtpbhdlhbcfkhfaaSOps
import Derived.ShutString
import Derived.ChangeOld
import Derived.Lib.SmallJoins
/-
  Contract of the document's own answer for layer 5: Turned: samples the other way round.
  Condition: at most 1000 samples.
-/
namespace Go.Proofs.Ytpbhdlhbcfkhfaa
open Go.RowKit
set_option linter.unusedVariables false
set_option linter.unusedSimpArgs false

theorem one_lst5 (w : World) (T V : Int) (hT : in64 T) (hV : in64 V) : Lst (w.alloc (.cells #[.int .i64 T, .int .i64 V] 29)) (some ⟨w.heap.size, 0, none⟩) 1 1 [(T, V)] :=
  lst_whole (all64_one hT hV) rfl (by omega) (heap_new w _)
theorem drop_rev (z : List (Int × Int)) (k : Nat) (h : k < z.length) : (z.drop k).reverse = (z.drop (k + 1)).reverse ++ [(tOf z k, vOf z k)] := by
  have e : z[k] = (tOf z k, vOf z k) := by unfold tOf vOf; rw [List.getD_eq_getElem?_getD, List.getElem?_eq_getElem h]; rfl
  rw [List.drop_eq_getElem_cons h, List.reverse_cons, e]

set_option maxRecDepth 100000 in
set_option maxHeartbeats 4000000 in
theorem turned_any (a : Option Addr) (len cap : Nat) (z : List (Int × Int)) (w : World) (hz : Lst w a len cap z) (hl : len ≤ 1000) :
    Calls Try.prog 26 #[.slice a len cap] w fun e w' => ∃ ad cp, e = .returned (.slice ad len cp) ∧ Lst w' ad len cp z.reverse ∧ Below w.heap.size w w' := by
  have HLN := Lib.hid hz.len
  have HL := Lib.hid hz
  have h64 := Lib.hid hz.all64
  clear hz
  go_enter Try.func26, Try.ntmps26
  go_wp2_with fail
  go_loopw [3, 4] (fun o i wr => ∃ j n : Nat, j ≤ len ∧ n + j = len ∧ i = .int .i64 ((j : Int) - 1) ∧ wr.ownsRow w.heap.size 29 2 o n (smpCells (z.drop j).reverse) ∧ Below w.heap.size w wr) (fun _ i _ => (intOf i + 1).toNat)
  case atStart => exact ⟨len, 0, Nat.le_refl _, by omega, by go_num, by rw [List.drop_of_length_le (by rw [HLN.out]; exact Nat.le_refl _)]; exact World.ownsRow_nil _ _ _ _, Below.refl _ _⟩
  case round =>
    obtain ⟨j, n, hj, hn, rfl, hown, B2⟩ := hrel
    have s2 := B2.size
    cases j with
    | zero =>
      have hlt : ¬ (((0 : Nat) : Int) - 1 ≥ 0) := by omega
      obtain rfl : n = len := by omega
      obtain ⟨ad, cp, rfl, L9⟩ := owns_lst (z := z.reverse) (n := n) (by rw [List.length_reverse]; exact HLN.out) (fun u hu => h64.out u (List.mem_reverse.1 hu)) (by omega) hown
      go_wp2
      go_ret
      exact ⟨ad, cp, rfl, L9, B2⟩
    | succ k =>
      have hk : ((k + 1 : Nat) : Int) - 1 = (k : Int) := by omega
      rw [hk]
      have hge : (k : Int) ≥ 0 := by omega
      have hk0 : (0 : Int) ≤ (k : Int) := by omega
      have hk1 : (k : Int) < (len : Int) := by omega
      obtain ⟨q, o, rfl, hq, x0, x1⟩ := HL.out.1.at_ k (by omega)
      rw [← B2.cell hq] at x0 x1
      have HT := Lib.hid (drop_rev z k (by rw [HLN.out]; omega))
      have HFL := Lib.hid (show (z.drop (k + 1)).reverse.length = n from by rw [List.length_reverse, List.length_drop, HLN.out]; omega)
      have h6 := all64_at h64.out k
      generalize tOf z k = T at *
      generalize vOf z k = V at *
      have LS := one_lst5 wr T V h6.1 h6.2
      have o4 := hown.alloc (.cells #[.int .i64 T, .int .i64 V] 29)
      have B4 := B2.alloc s2 (.cells #[.int .i64 T, .int .i64 V] 29)
      have s4 : w.heap.size ≤ (wr.alloc (.cells #[.int .i64 T, .int .i64 V] 29)).heap.size := by simp; omega
      clear hk
      go_wp2_with (at_builtin; (refine wpList_append_lst ?_ (.tmp 12) (.tmp 17) rfl w.heap.size _ n ((z.drop (k + 1)).reverse) rfl HFL.out o4 _ 1 1 [(T, V)] rfl LS (by omega) s4 ?_))
      intro v5 W5 o5 g5
      have B5 := B4.grown g5 s4 (fun k hk => (o4.lt k hk).1)
      clear o4 LS B4 s4 x0 x1 g5 hown B2
      go_wp2
      go_roundw
      case rel => exact ⟨k, n + 1, by omega, by omega, by go_num, by rw [HT.out]; exact o5, B5⟩
      case measure => simp [intOf]

end Go.Proofs.Ytpbhdlhbcfkhfaa
namespace Go.Proofs.Ytpbhdlhbcfkhfaa
namespace seriesRanges
open Go.ChangeShapes Go.WideShapes Go.ChangeAt Go.RowKit
set_option linter.unusedVariables false
set_option linter.unusedSimpArgs false

theorem own : ownKnob Try.prog.godebug = none := by kernel_rfl
theorem laidOut : laidOutB Try.prog = true := by kernel_rfl

theorem parts_in {z : List (Int × Int)} (h : Rising z) {a b c : Int} (hab : a ≤ b) (hbc : b ≤ c) : z.filter (inB a b) ++ z.filter (inB (b + 1) c) = z.filter (inB a c) := by
  rw [rising_pw] at h
  induction z with
  | nil => rfl
  | cons u l ih =>
    rw [List.pairwise_cons] at h
    have ih' := ih h.2
    have e1 : inB a b u = (decide (a ≤ u.1) && decide (u.1 ≤ b)) := rfl
    have e2 : inB (b + 1) c u = (decide (b + 1 ≤ u.1) && decide (u.1 ≤ c)) := rfl
    have e3 : inB a c u = (decide (a ≤ u.1) && decide (u.1 ≤ c)) := rfl
    by_cases h1 : a ≤ u.1
    · by_cases h2 : u.1 ≤ b
      · have f1 : inB a b u = true := by rw [e1]; simp; omega
        have f2 : ¬ inB (b + 1) c u = true := by rw [e2]; simp; omega
        have f3 : inB a c u = true := by rw [e3]; simp; omega
        rw [List.filter_cons_of_pos f1, List.filter_cons_of_neg f2, List.filter_cons_of_pos f3, List.cons_append, ih']
      · have f1 : ¬ inB a b u = true := by rw [e1]; simp; omega
        have fl : l.filter (inB a b) = [] := by
          apply List.filter_eq_nil_iff.2
          intro v hv
          have := h.1 v hv
          have e4 : inB a b v = (decide (a ≤ v.1) && decide (v.1 ≤ b)) := rfl
          rw [e4]; simp; omega
        rw [fl, List.nil_append] at ih'
        rw [List.filter_cons_of_neg f1, fl, List.nil_append]
        by_cases h3 : u.1 ≤ c
        · have f2 : inB (b + 1) c u = true := by rw [e2]; simp; omega
          have f3 : inB a c u = true := by rw [e3]; simp; omega
          rw [List.filter_cons_of_pos f2, List.filter_cons_of_pos f3, ih']
        · have f2 : ¬ inB (b + 1) c u = true := by rw [e2]; simp; omega
          have f3 : ¬ inB a c u = true := by rw [e3]; simp; omega
          rw [List.filter_cons_of_neg f2, List.filter_cons_of_neg f3, ih']
    · have f1 : ¬ inB a b u = true := by rw [e1]; simp; omega
      have f2 : ¬ inB (b + 1) c u = true := by rw [e2]; simp; omega
      have f3 : ¬ inB a c u = true := by rw [e3]; simp; omega
      rw [List.filter_cons_of_neg f1, List.filter_cons_of_neg f2, List.filter_cons_of_neg f3, ih']
theorem none_in (z : List (Int × Int)) {a c : Int} (h : a ≤ c) : z.filter (inB c (a - 1)) = [] := by
  apply List.filter_eq_nil_iff.2
  intro v hv
  have e4 : inB c (a - 1) v = (decide (c ≤ v.1) && decide (v.1 ≤ a - 1)) := rfl
  rw [e4]; simp; omega
/-- A range of one time has its sample, or none. -/
theorem one_in {z : List (Int × Int)} (h : Rising z) (b : Int) : (∃ v, getL z b = (v, 0) ∧ z.filter (inB b b) = [(b, v)]) ∨ (getL z b = (0, 5) ∧ z.filter (inB b b) = []) := by
  have hin : ∀ u : Int × Int, inB b b u = true ↔ u.1 = b := by
    intro u
    have e4 : inB b b u = (decide (b ≤ u.1) && decide (u.1 ≤ b)) := rfl
    rw [e4]; simp; omega
  by_cases e : ∃ v, (b, v) ∈ z
  · obtain ⟨v, hv⟩ := e
    refine .inl ⟨v, getL_mem h hv, ?_⟩
    rw [rising_pw] at h
    induction z with
    | nil => cases hv
    | cons u l ih =>
      rw [List.pairwise_cons] at h
      rcases List.mem_cons.1 hv with e | hl
      · subst e
        rw [List.filter_cons_of_pos ((hin _).2 rfl), List.filter_eq_nil_iff.2]
        intro x hx hxx
        have := h.1 x hx
        have := (hin x).1 hxx
        simp at *; omega
      · have hne : ¬ inB b b u = true := by
          intro hu
          have := (hin u).1 hu
          have := h.1 _ hl
          simp at *; omega
        rw [List.filter_cons_of_neg hne]
        exact ih h.2 hl
  · refine .inr ⟨getL_no h (fun x hx hb => e ⟨x.2, by rw [← hb]; exact hx⟩), ?_⟩
    apply List.filter_eq_nil_iff.2
    intro x hx hxx
    exact e ⟨x.2, by rw [← (hin x).1 hxx]; exact hx⟩

set_option maxRecDepth 100000 in
theorem open_arr3 {H : Type} {enc : TypeId × Value → H} {W : World} {r : Reach} {b0 : Nat} {v : Value} {d : DataW H} {p : List MemPlace}
    (hv : Value.okWide Try.prog W r b0 47 v) (h : DataW.Trod enc Try.prog W 0 (fun _ => true) true 47 v d p) :
    ∃ z : Int × Int × Int, v = .agg #[.int .i64 z.1, .int .i64 z.2.1, .int .i64 z.2.2] ∧ in64 z.1 ∧ in64 z.2.1 ∧ in64 z.2.2 := by
  simp only [Value.okWide, Try.underlying47] at hv
  obtain ⟨cs, rfl, hsz, _⟩ := hv
  have hc : cs.size = 3 := hsz.trans (by kernel_rfl)
  obtain ⟨l⟩ := cs
  match l, hc with
  | [c0, c1, c2], _ =>
    obtain ⟨fuel, hf⟩ := h
    obtain ⟨y0, y1, y2, n, _, h0, h1, h2⟩ := trod_array3 Try.underlying47 (by kernel_rfl) hf
    obtain ⟨n0, e0, _, w0⟩ := DataW.trod_int Try.underlying3 h0
    obtain ⟨n1, e1, _, w1⟩ := DataW.trod_int Try.underlying3 h1
    obtain ⟨n2, e2, _, w2⟩ := DataW.trod_int Try.underlying3 h2
    simp at e0 e1 e2
    subst e0 e1 e2
    exact ⟨(n0, n1, n2), rfl, bounds_i64 w0, bounds_i64 w1, bounds_i64 w2⟩

set_option maxRecDepth 100000 in
set_option maxHeartbeats 8000000 in
theorem walk (a : Option Addr) (len cap : Nat) (zz : List Cl) (tt : Int × Int × Int) (w : World) (hz : OpsC w a len zz) (ht : in64 tt.1 ∧ in64 tt.2.1 ∧ in64 tt.2.2) :
    Calls Try.prog 6 #[.slice a len cap, .agg #[.int .i64 tt.1, .int .i64 tt.2.1, .int .i64 tt.2.2]] w fun e w' => e = .returned (.bool true) ∧ Below w.heap.size w w' := by
  obtain ⟨A, B, C⟩ := tt
  simp only at ht ⊢
  have hlen := hz.2.1
  have HZ := Lib.hid hz
  have hA := ht.1
  have hB := ht.2.1
  have hC := ht.2.2
  clear hz ht
  go_enter Try.func6, Try.ntmps6
  go_wp2_with fail
  have HBX := Lib.hid (heap_new w (.cells #[.int .i64 A, .int .i64 B, .int .i64 C] 47))
  have BX := (Below.refl w.heap.size w).alloc (Nat.le_refl _) (.cells #[.int .i64 A, .int .i64 B, .int .i64 C] 47)
  have nX : w.heap.size < (w.alloc (.cells #[.int .i64 A, .int .i64 B, .int .i64 C] 47)).heap.size := by simp
  have HZX := Lib.hid (HZ.out.keep BX)
  generalize w.alloc (.cells #[.int .i64 A, .int .i64 B, .int .i64 C] 47) = w0 at *
  clear HZ
  have HZ := HZX
  clear HZX
  refine (snew_at 128 0 6 w0 (by omega) (by omega) (by decide)).mono ?_
  rintro e W0 ⟨b, rfl, S0', hb, B0⟩
  have S0 := Lib.hid S0'
  have ST0 := Lib.hid (Std.new (ret := 0) (p := 6) (by decide))
  clear S0'
  go_wp2_with fail
  go_loopw [7] (fun i wr => ∃ (j : Nat) (s : Ser), j ≤ len ∧ j ≤ 80 ∧ i = .int .i64 (j : Int) ∧ SerAt wr b 128 s ∧ Std s ∧ s.z.length ≤ j ∧ Below w0.heap.size w0 wr) (fun i _ => len - (intOf i).toNat)
  case atStart => exact ⟨0, newSer 0 6, Nat.zero_le _, Nat.zero_le _, rfl, S0.out, ST0.out, Nat.le_refl _, B0⟩
  case round =>
    obtain ⟨j, s, hj, hj2, rfl, hS, hSt, hsl, B1⟩ := hrel
    have HS := Lib.hid hS
    have HST := Lib.hid hSt
    have hbk : b < wr.heap.size := hS.lt
    clear hS hSt
    by_cases hjl : j < len
    · by_cases hjh : j < 80
      · have hjh' : (j : Int) < 80 := by omega
        obtain ⟨q, o, hqe, hq, x0, x1, x2, x3, h64⟩ := HZ.out.at_ j hjl
        subst hqe
        rw [← B1.cell hq] at x0 x1 x2 x3
        generalize opOf zz j = op at *
        obtain ⟨K, TT, VV, PP⟩ := op
        replace x0 : wr.cell? ⟨q, o + j * 4, none⟩ = some (.int .i64 K) := x0
        replace x1 : wr.cell? ⟨q, o + j * 4 + 1, none⟩ = some (.int .i64 TT) := x1
        replace x2 : wr.cell? ⟨q, o + j * 4 + 2, none⟩ = some (.int .i64 VV) := x2
        replace x3 : wr.cell? ⟨q, o + j * 4 + 3, none⟩ = some (.int .i64 PP) := x3
        have h64T : in64 TT := h64.2.1
        have h64V : in64 VV := h64.2.2.1
        have h64P : in64 PP := h64.2.2.2
        have hj0 : (0 : Int) ≤ (j : Int) := by omega
        have hj1 : (j : Int) < (len : Int) := by omega
        clear h64
        have hqb : q ≠ b := by omega
        by_cases hK : K = 1
        · subst hK
          have HSD : Hid (SerAt wr.drew b 128 s) := HS
          have HX1 := Lib.hid x1
          have HX2 := Lib.hid x2
          go_wp2_with fail
          go_region_held3 (fun w' => w'.cell? ⟨q, o + j * 4 + 1, none⟩ = some (.int .i64 TT) ∧ w'.cell? ⟨q, o + j * 4 + 2, none⟩ = some (.int .i64 VV))
            (first
              | (exact ⟨X14.out, X24.out⟩)
              | (exact ⟨HX1.out, HX2.out⟩)
              | go_keep
              | fail)
            (first
              | (go_at_call 12
                 (with_reducible refine (del_any b 128 s TT VV _ HSD.out (by omega) (by omega) HST.out.rise (by omega)).mono ?_)
                 rintro e W4 ⟨rfl, S4, g4⟩
                 have X14 := Lib.hid (g4.cell (a := ⟨q, o + j * 4 + 1, none⟩) HX1.out (by simp; exact hqb))
                 have X24 := Lib.hid (g4.cell (a := ⟨q, o + j * 4 + 2, none⟩) HX2.out (by simp; exact hqb)))
              | fail)
          have HS4 := Lib.hid S4
          have B4 := bel_gb (B1.drew) B1.size hb g4
          have HST4 := Lib.hid (HST.out.del TT VV)
          have hl4 : (delS s TT VV).z.length ≤ j + 1 := by have := del_len s TT VV; omega
          clear S4 g4 x0 x1 x2 x3 X14 X24
          generalize dropN s.z TT VV = dn at *
          generalize delS s TT VV = s4 at *
          go_wp2
          go_roundw
          case rel => exact ⟨j + 1, s4, by omega, by omega, by go_num, HS4.out, HST4.out, hl4, B4⟩
          case measure => simp [intOf]; omega
        · have hKb : (K == 1) = false := by rw [beq_eq_false_iff_ne]; exact hK
          go_wp2_with fail
          refine (add_ser b 128 s TT VV 0 wr HS.out HST.out (by omega) (by omega) (by omega) h64V).mono ?_
          rintro e W4 ⟨rfl, S4, g4⟩
          have HS4 := Lib.hid S4
          have B4 := bel_gb B1 B1.size hb g4
          have HST4 := Lib.hid (HST.out.add TT VV 0 h64V)
          have hl4 : (addS5 s TT VV 0).z.length ≤ j + 1 := by have := add_len HST.out.rise TT VV 0; omega
          clear S4 g4 x0 x1 x2 x3
          generalize addE s TT VV 0 = er at *
          generalize addS5 s TT VV 0 = s4 at *
          go_wp2
          go_roundw
          case rel => exact ⟨j + 1, s4, by omega, by omega, by go_num, HS4.out, HST4.out, hl4, B4⟩
          case measure => simp [intOf]; omega
      · have hjh' : ¬ (j : Int) < 80 := by omega
        have hj1 : (j : Int) < (len : Int) := by omega
        have HBXr := Lib.hid ((B1.block _ nX).trans HBX.out)
        have y0 : wr.cell? ⟨w.heap.size, 0, none⟩ = some (.int .i64 A) := by rw [cell_of HBXr.out]; rfl
        have y1 : wr.cell? ⟨w.heap.size, 1, none⟩ = some (.int .i64 B) := by rw [cell_of HBXr.out]; rfl
        have y2 : wr.cell? ⟨w.heap.size, 2, none⟩ = some (.int .i64 C) := by rw [cell_of HBXr.out]; rfl
        go_upto_region 10 with fail
        go_cut [8] (fun s8 wx => ∃ m : Int, s8 = .int .i64 m ∧ m ≤ A ∧ m ≤ B ∧ in64 m ∧ wx = wr)
        case first =>
          go_wp2
          all_goals go_meet
          all_goals exact ⟨_, rfl, by omega, by omega, by first | exact hA | exact hB | exact hC, rfl⟩
        case rest =>
          obtain ⟨m, rfl, hmA, hmB, hm64, hwc⟩ := hcut
          replace hwc := hwc.symm
          subst hwc
          go_upto_region 11 with fail
          go_cut [9] (fun s9 wx => ∃ x : Int, s9 = .int .i64 x ∧ B ≤ x ∧ in64 x ∧ wx = wr)
          case first =>
            go_wp2
            all_goals go_meet
            all_goals exact ⟨_, rfl, by omega, by first | exact hA | exact hB | exact hC, rfl⟩
          case rest =>
            obtain ⟨x, rfl, hxB, hx64, hwc⟩ := hcut
            replace hwc := hwc.symm
            subst hwc
            clear hmA hA hC
            by_cases hm0 : m < 0
            · skip
              go_wp2_with fail
              refine (sknown_any wr).mono ?_
              rintro e W9 ⟨rfl, b9⟩
              have B9 := BX.trans ((B1.trans (b9.mono B1.size)).mono (Nat.le_of_lt nX))
              clear b9
              go_wp2
              go_ret
              exact ⟨rfl, B9⟩
            · by_cases hx1 : x ≥ 1099511627776
              · skip
                go_wp2_with fail
                refine (sknown_any wr).mono ?_
                rintro e W9 ⟨rfl, b9⟩
                have B9 := BX.trans ((B1.trans (b9.mono B1.size)).mono (Nat.le_of_lt nX))
                clear b9
                go_wp2
                go_ret
                exact ⟨rfl, B9⟩
              · have n1 := Nat.lt_of_lt_of_le nX B1.size
                obtain ⟨L1, hL1⟩ : ∃ L1, s.z.filter (inB m B) = L1 := ⟨_, rfl⟩
                obtain ⟨L2, hL2⟩ : ∃ L2, s.z.filter (inB (B + 1) x) = L2 := ⟨_, rfl⟩
                have HL12 := Lib.hid (parts_in HST.out.rise hmB hxB)
                rw [hL1, hL2] at HL12
                have h1l : L1.length ≤ 80 := by rw [← hL1]; exact Nat.le_trans (List.length_filter_le _ _) (by omega)
                have h2l : L2.length ≤ 80 := by rw [← hL2]; exact Nat.le_trans (List.length_filter_le _ _) (by omega)
                have HL1 := Lib.hid hL1
                have HL2 := Lib.hid hL2
                have O1 := owns_empty wr wr.heap.size (Nat.le_refl _)
                have HO1 := Lib.hid O1
                have D2 := (Below.refl wr.heap.size wr).alloc (Nat.le_refl _) (.cells #[] 29)
                have HS2 := Lib.hid (HS.out.keepB D2)
                clear hL1 hL2 O1
                go_wp2_with fail
                generalize wr.alloc (.cells #[] 29) = W2 at *
                refine (range_ser b 128 s m B W2 HS2.out (by omega) HST.out.rise (by omega)).mono ?_
                rintro e W3 ⟨a3, c3, rfl, l3, b3⟩
                rw [HL1.out] at l3 ⊢
                have HO3 := Lib.hid (World.ownsRow.kept HO1.out (gb_below (row := none) b3) (.inr (by simp [Value.ownBlock])))
                have D3 := D2.trans (b3.mono D2.size)
                have s3 := D3.size
                clear b3 HO1 HS2 D2
                go_wp2_with (at_builtin; (refine wpList_append_lst ?_ (.tmp 85) (.tmp 89) rfl wr.heap.size _ 0 [] rfl rfl HO3.out _ L1.length c3 L1 rfl l3 (by omega) s3 ?_))
                intro v4 W4 o4 g4
                have D4 := D3.grown g4 s3 (fun k hk => (HO3.out.lt k hk).1)
                have HO4 := Lib.hid o4
                have HS4 := Lib.hid (HS.out.keepB D4)
                have b1n : B + 1 ≤ 1099511627776 := by omega
                clear o4 g4 l3 D3 s3 HO3
                go_wp2_with fail
                refine (range_ser b 128 s (B + 1) x W4 HS4.out (by omega) HST.out.rise (by omega)).mono ?_
                rintro e W5 ⟨a5, c5, rfl, l5, b5⟩
                rw [HL2.out] at l5 ⊢
                have h45 : v4.ownBlock = none ∨ v4.ownBlock ≠ none := by cases v4.ownBlock <;> simp
                have HO5 := Lib.hid (World.ownsRow.kept HO4.out (gb_below (row := none) b5) h45)
                have D5 := D4.trans (b5.mono D4.size)
                have s5 := D5.size
                clear b5 HO4 HS4 D4 h45
                go_wp2_with (at_builtin; (refine wpList_append_lst ?_ (.tmp 90) (.tmp 95) rfl wr.heap.size _ L1.length L1 rfl rfl HO5.out _ L2.length c5 L2 rfl l5 (by omega) s5 ?_))
                intro v6 W6 o6 g6
                have D6 := D5.grown g6 s5 (fun k hk => (HO5.out.lt k hk).1)
                rw [HL12.out] at o6
                have HA6 := Lib.hid (show All64 (s.z.filter (inB m x)) from fun u hu => HST.out.all u (List.mem_filter.1 hu).1)
                have HNN := Lib.hid (show (s.z.filter (inB m x)).length = L1.length + L2.length from by rw [← HL12.out, List.length_append])
                have hno := Lib.hid (one_in HST.out.rise B)
                have HNI := Lib.hid (none_in s.z (a := m) (c := x) (by omega))
                obtain ⟨n, hn⟩ : ∃ n, L1.length + L2.length = n := ⟨_, rfl⟩
                have hnl : n ≤ 160 := by omega
                rw [hn] at o6 HNN
                obtain ⟨L, hL⟩ : ∃ L, s.z.filter (inB m x) = L := ⟨_, rfl⟩
                rw [hL] at o6 HNN HA6
                have HLL := Lib.hid hL
                obtain ⟨a6, c6, rfl, L6⟩ := owns_lst HNN.out HA6.out (by omega) o6
                have HL6 := Lib.hid L6
                have HS6 := Lib.hid (HS.out.keepB D6)
                clear o6 g6 l5 D5 s5 HO5 hL hn HL12 HL1 HL2 h1l h2l L6
                rcases hno.out with ⟨V, hg, h1⟩ | ⟨hg, h1⟩
                · skip
                  have HG := Lib.hid hg
                  have HF := Lib.hid h1
                  clear hg h1 hno
                  go_wp2_with fail
                  refine (get_ser b 128 s B V 0 W6 HG.out HS6.out (by omega) HST.out.rise (by omega)).mono ?_
                  rintro e W7 ⟨rfl, b7⟩
                  have D7 := D6.trans (b7.mono D6.size)
                  have HL7 := Lib.hid (HL6.out.keepN (gb_below b7))
                  have HS7 := Lib.hid (HS.out.keepB D7)
                  clear b7 D6 HL6 HS6
                  go_wp2_with fail
                  refine (range_ser b 128 s B B W7 HS7.out (by omega) HST.out.rise (by omega)).mono ?_
                  rintro e W8 ⟨a8, c8, rfl, l8, b8⟩
                  rw [HF.out] at l8 ⊢
                  have D8 := D7.trans (b8.mono D7.size)
                  have HL8 := Lib.hid (HL7.out.keepN (gb_below b8))
                  have HS8 := Lib.hid (HS.out.keepB D8)
                  have HO8 := Lib.hid l8
                  clear b8 D7 HL7 HS7 l8
                  simp only [List.length_cons, List.length_nil, Nat.zero_add]
                  go_wp2_with fail
                  refine (range_ser b 128 s m x W8 HS8.out (by omega) HST.out.rise (by omega)).mono ?_
                  rintro e W9 ⟨a9, c9, rfl, l9, b9⟩
                  rw [HLL.out, HNN.out] at l9
                  rw [HLL.out, HNN.out]
                  have D9 := D8.trans (b9.mono D8.size)
                  have HL9 := Lib.hid (HL8.out.keepN (gb_below b9))
                  have HO9 := Lib.hid (HO8.out.keepN (gb_below b9))
                  have HS9 := Lib.hid (HS.out.keepB D9)
                  clear b9 D8 HL8 HS8 HO8
                  have HM9 := Lib.hid l9
                  clear l9
                  go_wp2_with fail
                  refine (same_any a9 a6 n n c9 c6 L L W9 HM9.out.1 HL9.out.1).mono ?_
                  rintro e W10 ⟨rfl, d10⟩
                  have b10 := drew_below d10
                  clear d10
                  rw [show decide (L = L) = true from decide_eq_true rfl]
                  have D10 := D9.trans (b10.mono D9.size)
                  have HL10 := Lib.hid (HL9.out.keepN (gb_below b10))
                  have HO10 := Lib.hid (HO9.out.keepN (gb_below b10))
                  have HS10 := Lib.hid (HS.out.keepB D10)
                  clear b10 D9 HL9 HS9 HO9
                  clear HM9
                  go_wp2_with fail
                  refine (back_ser b 128 s m x W10 HS10.out (by omega) HST.out.rise (by omega)).mono ?_
                  rintro e W11 ⟨a11, c11, rfl, l11, b11⟩
                  rw [HLL.out, List.length_reverse, HNN.out] at l11
                  rw [HLL.out, List.length_reverse, HNN.out]
                  have D11 := D10.trans (b11.mono D10.size)
                  have HL11 := Lib.hid (HL10.out.keepN (gb_below b11))
                  have HO11 := Lib.hid (HO10.out.keepN (gb_below b11))
                  have HS11 := Lib.hid (HS.out.keepB D11)
                  clear b11 D10 HL10 HS10 HO10
                  have HM11 := Lib.hid l11
                  clear l11
                  go_wp2_with fail
                  refine (turned_any a6 n c6 L W11 HL11.out (by omega)).mono ?_
                  rintro e W12 ⟨a12, c12, rfl, l12, b12⟩
                  have HM12 := Lib.hid (HM11.out.keepN (gb_below b12))
                  have D12 := D11.trans (b12.mono D11.size)
                  have HL12 := Lib.hid (HL11.out.keepN (gb_below b12))
                  have HO12 := Lib.hid (HO11.out.keepN (gb_below b12))
                  have HS12 := Lib.hid (HS.out.keepB D12)
                  clear b12 D11 HL11 HS11 HO11
                  have HP12 := Lib.hid l12
                  clear l12 HM11
                  go_wp2_with fail
                  refine (same_any a11 a12 n n c11 c12 L.reverse L.reverse W12 HM12.out.1 HP12.out.1).mono ?_
                  rintro e W13 ⟨rfl, d13⟩
                  have b13 := drew_below d13
                  clear d13
                  rw [show decide (L.reverse = L.reverse) = true from decide_eq_true rfl]
                  have D13 := D12.trans (b13.mono D12.size)
                  have HL13 := Lib.hid (HL12.out.keepN (gb_below b13))
                  have HO13 := Lib.hid (HO12.out.keepN (gb_below b13))
                  have HS13 := Lib.hid (HS.out.keepB D13)
                  clear b13 D12 HL12 HS12 HO12
                  clear HM12 HP12
                  obtain ⟨q8, o8, hq8, hlt8, z0, z1⟩ := HO13.out.1.at_ 0 (by simp)
                  subst hq8
                  replace z0 : W13.cell? ⟨q8, o8, none⟩ = some (.int .i64 B) := z0
                  replace z1 : W13.cell? ⟨q8, o8 + 1, none⟩ = some (.int .i64 V) := z1
                  have hBB : (B == B) = true := by simp
                  have hVV : (V == V) = true := by simp
                  go_wp2_with fail
                  refine (range_ser b 128 s x (m - 1) W13 HS13.out (by omega) HST.out.rise (by omega)).mono ?_
                  rintro e W14 ⟨a14, c14, rfl, l14, b14⟩
                  rw [HNI.out]
                  rw [List.length_nil]
                  have D14 := D13.trans (b14.mono D13.size)
                  clear b14 l14
                  go_wp2_with fail
                  refine (sknown_any W14).mono ?_
                  rintro e W15 ⟨rfl, b15⟩
                  have D15 := D14.trans (b15.mono D14.size)
                  have B15 := BX.trans ((B1.trans (D15.mono B1.size)).mono (Nat.le_of_lt nX))
                  clear b15
                  go_wp2
                  go_ret
                  exact ⟨rfl, B15⟩
                · skip
                  have HG := Lib.hid hg
                  have HF := Lib.hid h1
                  clear hg h1 hno
                  go_wp2_with fail
                  refine (get_ser b 128 s B 0 5 W6 HG.out HS6.out (by omega) HST.out.rise (by omega)).mono ?_
                  rintro e W7 ⟨rfl, b7⟩
                  have D7 := D6.trans (b7.mono D6.size)
                  have HL7 := Lib.hid (HL6.out.keepN (gb_below b7))
                  have HS7 := Lib.hid (HS.out.keepB D7)
                  clear b7 D6 HL6 HS6
                  go_wp2_with fail
                  refine (range_ser b 128 s B B W7 HS7.out (by omega) HST.out.rise (by omega)).mono ?_
                  rintro e W8 ⟨a8, c8, rfl, l8, b8⟩
                  rw [HF.out] at l8 ⊢
                  have D8 := D7.trans (b8.mono D7.size)
                  have HL8 := Lib.hid (HL7.out.keepN (gb_below b8))
                  have HS8 := Lib.hid (HS.out.keepB D8)
                  have HO8 := Lib.hid l8
                  clear b8 D7 HL7 HS7 l8
                  simp only [List.length_cons, List.length_nil, Nat.zero_add]
                  go_wp2_with fail
                  refine (range_ser b 128 s m x W8 HS8.out (by omega) HST.out.rise (by omega)).mono ?_
                  rintro e W9 ⟨a9, c9, rfl, l9, b9⟩
                  rw [HLL.out, HNN.out] at l9
                  rw [HLL.out, HNN.out]
                  have D9 := D8.trans (b9.mono D8.size)
                  have HL9 := Lib.hid (HL8.out.keepN (gb_below b9))
                  have HO9 := Lib.hid (HO8.out.keepN (gb_below b9))
                  have HS9 := Lib.hid (HS.out.keepB D9)
                  clear b9 D8 HL8 HS8 HO8
                  have HM9 := Lib.hid l9
                  clear l9
                  go_wp2_with fail
                  refine (same_any a9 a6 n n c9 c6 L L W9 HM9.out.1 HL9.out.1).mono ?_
                  rintro e W10 ⟨rfl, d10⟩
                  have b10 := drew_below d10
                  clear d10
                  rw [show decide (L = L) = true from decide_eq_true rfl]
                  have D10 := D9.trans (b10.mono D9.size)
                  have HL10 := Lib.hid (HL9.out.keepN (gb_below b10))
                  have HO10 := Lib.hid (HO9.out.keepN (gb_below b10))
                  have HS10 := Lib.hid (HS.out.keepB D10)
                  clear b10 D9 HL9 HS9 HO9
                  clear HM9
                  go_wp2_with fail
                  refine (back_ser b 128 s m x W10 HS10.out (by omega) HST.out.rise (by omega)).mono ?_
                  rintro e W11 ⟨a11, c11, rfl, l11, b11⟩
                  rw [HLL.out, List.length_reverse, HNN.out] at l11
                  rw [HLL.out, List.length_reverse, HNN.out]
                  have D11 := D10.trans (b11.mono D10.size)
                  have HL11 := Lib.hid (HL10.out.keepN (gb_below b11))
                  have HO11 := Lib.hid (HO10.out.keepN (gb_below b11))
                  have HS11 := Lib.hid (HS.out.keepB D11)
                  clear b11 D10 HL10 HS10 HO10
                  have HM11 := Lib.hid l11
                  clear l11
                  go_wp2_with fail
                  refine (turned_any a6 n c6 L W11 HL11.out (by omega)).mono ?_
                  rintro e W12 ⟨a12, c12, rfl, l12, b12⟩
                  have HM12 := Lib.hid (HM11.out.keepN (gb_below b12))
                  have D12 := D11.trans (b12.mono D11.size)
                  have HL12 := Lib.hid (HL11.out.keepN (gb_below b12))
                  have HO12 := Lib.hid (HO11.out.keepN (gb_below b12))
                  have HS12 := Lib.hid (HS.out.keepB D12)
                  clear b12 D11 HL11 HS11 HO11
                  have HP12 := Lib.hid l12
                  clear l12 HM11
                  go_wp2_with fail
                  refine (same_any a11 a12 n n c11 c12 L.reverse L.reverse W12 HM12.out.1 HP12.out.1).mono ?_
                  rintro e W13 ⟨rfl, d13⟩
                  have b13 := drew_below d13
                  clear d13
                  rw [show decide (L.reverse = L.reverse) = true from decide_eq_true rfl]
                  have D13 := D12.trans (b13.mono D12.size)
                  have HL13 := Lib.hid (HL12.out.keepN (gb_below b13))
                  have HO13 := Lib.hid (HO12.out.keepN (gb_below b13))
                  have HS13 := Lib.hid (HS.out.keepB D13)
                  clear b13 D12 HL12 HS12 HO12
                  clear HM12 HP12
                  go_wp2_with fail
                  refine (range_ser b 128 s x (m - 1) W13 HS13.out (by omega) HST.out.rise (by omega)).mono ?_
                  rintro e W14 ⟨a14, c14, rfl, l14, b14⟩
                  rw [HNI.out]
                  rw [List.length_nil]
                  have D14 := D13.trans (b14.mono D13.size)
                  clear b14 l14
                  go_wp2_with fail
                  refine (sknown_any W14).mono ?_
                  rintro e W15 ⟨rfl, b15⟩
                  have D15 := D14.trans (b15.mono D14.size)
                  have B15 := BX.trans ((B1.trans (D15.mono B1.size)).mono (Nat.le_of_lt nX))
                  clear b15
                  go_wp2
                  go_ret
                  exact ⟨rfl, B15⟩
    · have hj1 : ¬ (j : Int) < (len : Int) := by omega
      have HBXr := Lib.hid ((B1.block _ nX).trans HBX.out)
      have y0 : wr.cell? ⟨w.heap.size, 0, none⟩ = some (.int .i64 A) := by rw [cell_of HBXr.out]; rfl
      have y1 : wr.cell? ⟨w.heap.size, 1, none⟩ = some (.int .i64 B) := by rw [cell_of HBXr.out]; rfl
      have y2 : wr.cell? ⟨w.heap.size, 2, none⟩ = some (.int .i64 C) := by rw [cell_of HBXr.out]; rfl
      go_upto_region 10 with fail
      go_cut [8] (fun s8 wx => ∃ m : Int, s8 = .int .i64 m ∧ m ≤ A ∧ m ≤ B ∧ in64 m ∧ wx = wr)
      case first =>
        go_wp2
        all_goals go_meet
        all_goals exact ⟨_, rfl, by omega, by omega, by first | exact hA | exact hB | exact hC, rfl⟩
      case rest =>
        obtain ⟨m, rfl, hmA, hmB, hm64, hwc⟩ := hcut
        replace hwc := hwc.symm
        subst hwc
        go_upto_region 11 with fail
        go_cut [9] (fun s9 wx => ∃ x : Int, s9 = .int .i64 x ∧ B ≤ x ∧ in64 x ∧ wx = wr)
        case first =>
          go_wp2
          all_goals go_meet
          all_goals exact ⟨_, rfl, by omega, by first | exact hA | exact hB | exact hC, rfl⟩
        case rest =>
          obtain ⟨x, rfl, hxB, hx64, hwc⟩ := hcut
          replace hwc := hwc.symm
          subst hwc
          clear hmA hA hC
          by_cases hm0 : m < 0
          · skip
            go_wp2_with fail
            refine (sknown_any wr).mono ?_
            rintro e W9 ⟨rfl, b9⟩
            have B9 := BX.trans ((B1.trans (b9.mono B1.size)).mono (Nat.le_of_lt nX))
            clear b9
            go_wp2
            go_ret
            exact ⟨rfl, B9⟩
          · by_cases hx1 : x ≥ 1099511627776
            · skip
              go_wp2_with fail
              refine (sknown_any wr).mono ?_
              rintro e W9 ⟨rfl, b9⟩
              have B9 := BX.trans ((B1.trans (b9.mono B1.size)).mono (Nat.le_of_lt nX))
              clear b9
              go_wp2
              go_ret
              exact ⟨rfl, B9⟩
            · have n1 := Nat.lt_of_lt_of_le nX B1.size
              obtain ⟨L1, hL1⟩ : ∃ L1, s.z.filter (inB m B) = L1 := ⟨_, rfl⟩
              obtain ⟨L2, hL2⟩ : ∃ L2, s.z.filter (inB (B + 1) x) = L2 := ⟨_, rfl⟩
              have HL12 := Lib.hid (parts_in HST.out.rise hmB hxB)
              rw [hL1, hL2] at HL12
              have h1l : L1.length ≤ 80 := by rw [← hL1]; exact Nat.le_trans (List.length_filter_le _ _) (by omega)
              have h2l : L2.length ≤ 80 := by rw [← hL2]; exact Nat.le_trans (List.length_filter_le _ _) (by omega)
              have HL1 := Lib.hid hL1
              have HL2 := Lib.hid hL2
              have O1 := owns_empty wr wr.heap.size (Nat.le_refl _)
              have HO1 := Lib.hid O1
              have D2 := (Below.refl wr.heap.size wr).alloc (Nat.le_refl _) (.cells #[] 29)
              have HS2 := Lib.hid (HS.out.keepB D2)
              clear hL1 hL2 O1
              go_wp2_with fail
              generalize wr.alloc (.cells #[] 29) = W2 at *
              refine (range_ser b 128 s m B W2 HS2.out (by omega) HST.out.rise (by omega)).mono ?_
              rintro e W3 ⟨a3, c3, rfl, l3, b3⟩
              rw [HL1.out] at l3 ⊢
              have HO3 := Lib.hid (World.ownsRow.kept HO1.out (gb_below (row := none) b3) (.inr (by simp [Value.ownBlock])))
              have D3 := D2.trans (b3.mono D2.size)
              have s3 := D3.size
              clear b3 HO1 HS2 D2
              go_wp2_with (at_builtin; (refine wpList_append_lst ?_ (.tmp 85) (.tmp 89) rfl wr.heap.size _ 0 [] rfl rfl HO3.out _ L1.length c3 L1 rfl l3 (by omega) s3 ?_))
              intro v4 W4 o4 g4
              have D4 := D3.grown g4 s3 (fun k hk => (HO3.out.lt k hk).1)
              have HO4 := Lib.hid o4
              have HS4 := Lib.hid (HS.out.keepB D4)
              have b1n : B + 1 ≤ 1099511627776 := by omega
              clear o4 g4 l3 D3 s3 HO3
              go_wp2_with fail
              refine (range_ser b 128 s (B + 1) x W4 HS4.out (by omega) HST.out.rise (by omega)).mono ?_
              rintro e W5 ⟨a5, c5, rfl, l5, b5⟩
              rw [HL2.out] at l5 ⊢
              have h45 : v4.ownBlock = none ∨ v4.ownBlock ≠ none := by cases v4.ownBlock <;> simp
              have HO5 := Lib.hid (World.ownsRow.kept HO4.out (gb_below (row := none) b5) h45)
              have D5 := D4.trans (b5.mono D4.size)
              have s5 := D5.size
              clear b5 HO4 HS4 D4 h45
              go_wp2_with (at_builtin; (refine wpList_append_lst ?_ (.tmp 90) (.tmp 95) rfl wr.heap.size _ L1.length L1 rfl rfl HO5.out _ L2.length c5 L2 rfl l5 (by omega) s5 ?_))
              intro v6 W6 o6 g6
              have D6 := D5.grown g6 s5 (fun k hk => (HO5.out.lt k hk).1)
              rw [HL12.out] at o6
              have HA6 := Lib.hid (show All64 (s.z.filter (inB m x)) from fun u hu => HST.out.all u (List.mem_filter.1 hu).1)
              have HNN := Lib.hid (show (s.z.filter (inB m x)).length = L1.length + L2.length from by rw [← HL12.out, List.length_append])
              have hno := Lib.hid (one_in HST.out.rise B)
              have HNI := Lib.hid (none_in s.z (a := m) (c := x) (by omega))
              obtain ⟨n, hn⟩ : ∃ n, L1.length + L2.length = n := ⟨_, rfl⟩
              have hnl : n ≤ 160 := by omega
              rw [hn] at o6 HNN
              obtain ⟨L, hL⟩ : ∃ L, s.z.filter (inB m x) = L := ⟨_, rfl⟩
              rw [hL] at o6 HNN HA6
              have HLL := Lib.hid hL
              obtain ⟨a6, c6, rfl, L6⟩ := owns_lst HNN.out HA6.out (by omega) o6
              have HL6 := Lib.hid L6
              have HS6 := Lib.hid (HS.out.keepB D6)
              clear o6 g6 l5 D5 s5 HO5 hL hn HL12 HL1 HL2 h1l h2l L6
              rcases hno.out with ⟨V, hg, h1⟩ | ⟨hg, h1⟩
              · skip
                have HG := Lib.hid hg
                have HF := Lib.hid h1
                clear hg h1 hno
                go_wp2_with fail
                refine (get_ser b 128 s B V 0 W6 HG.out HS6.out (by omega) HST.out.rise (by omega)).mono ?_
                rintro e W7 ⟨rfl, b7⟩
                have D7 := D6.trans (b7.mono D6.size)
                have HL7 := Lib.hid (HL6.out.keepN (gb_below b7))
                have HS7 := Lib.hid (HS.out.keepB D7)
                clear b7 D6 HL6 HS6
                go_wp2_with fail
                refine (range_ser b 128 s B B W7 HS7.out (by omega) HST.out.rise (by omega)).mono ?_
                rintro e W8 ⟨a8, c8, rfl, l8, b8⟩
                rw [HF.out] at l8 ⊢
                have D8 := D7.trans (b8.mono D7.size)
                have HL8 := Lib.hid (HL7.out.keepN (gb_below b8))
                have HS8 := Lib.hid (HS.out.keepB D8)
                have HO8 := Lib.hid l8
                clear b8 D7 HL7 HS7 l8
                simp only [List.length_cons, List.length_nil, Nat.zero_add]
                go_wp2_with fail
                refine (range_ser b 128 s m x W8 HS8.out (by omega) HST.out.rise (by omega)).mono ?_
                rintro e W9 ⟨a9, c9, rfl, l9, b9⟩
                rw [HLL.out, HNN.out] at l9
                rw [HLL.out, HNN.out]
                have D9 := D8.trans (b9.mono D8.size)
                have HL9 := Lib.hid (HL8.out.keepN (gb_below b9))
                have HO9 := Lib.hid (HO8.out.keepN (gb_below b9))
                have HS9 := Lib.hid (HS.out.keepB D9)
                clear b9 D8 HL8 HS8 HO8
                have HM9 := Lib.hid l9
                clear l9
                go_wp2_with fail
                refine (same_any a9 a6 n n c9 c6 L L W9 HM9.out.1 HL9.out.1).mono ?_
                rintro e W10 ⟨rfl, d10⟩
                have b10 := drew_below d10
                clear d10
                rw [show decide (L = L) = true from decide_eq_true rfl]
                have D10 := D9.trans (b10.mono D9.size)
                have HL10 := Lib.hid (HL9.out.keepN (gb_below b10))
                have HO10 := Lib.hid (HO9.out.keepN (gb_below b10))
                have HS10 := Lib.hid (HS.out.keepB D10)
                clear b10 D9 HL9 HS9 HO9
                clear HM9
                go_wp2_with fail
                refine (back_ser b 128 s m x W10 HS10.out (by omega) HST.out.rise (by omega)).mono ?_
                rintro e W11 ⟨a11, c11, rfl, l11, b11⟩
                rw [HLL.out, List.length_reverse, HNN.out] at l11
                rw [HLL.out, List.length_reverse, HNN.out]
                have D11 := D10.trans (b11.mono D10.size)
                have HL11 := Lib.hid (HL10.out.keepN (gb_below b11))
                have HO11 := Lib.hid (HO10.out.keepN (gb_below b11))
                have HS11 := Lib.hid (HS.out.keepB D11)
                clear b11 D10 HL10 HS10 HO10
                have HM11 := Lib.hid l11
                clear l11
                go_wp2_with fail
                refine (turned_any a6 n c6 L W11 HL11.out (by omega)).mono ?_
                rintro e W12 ⟨a12, c12, rfl, l12, b12⟩
                have HM12 := Lib.hid (HM11.out.keepN (gb_below b12))
                have D12 := D11.trans (b12.mono D11.size)
                have HL12 := Lib.hid (HL11.out.keepN (gb_below b12))
                have HO12 := Lib.hid (HO11.out.keepN (gb_below b12))
                have HS12 := Lib.hid (HS.out.keepB D12)
                clear b12 D11 HL11 HS11 HO11
                have HP12 := Lib.hid l12
                clear l12 HM11
                go_wp2_with fail
                refine (same_any a11 a12 n n c11 c12 L.reverse L.reverse W12 HM12.out.1 HP12.out.1).mono ?_
                rintro e W13 ⟨rfl, d13⟩
                have b13 := drew_below d13
                clear d13
                rw [show decide (L.reverse = L.reverse) = true from decide_eq_true rfl]
                have D13 := D12.trans (b13.mono D12.size)
                have HL13 := Lib.hid (HL12.out.keepN (gb_below b13))
                have HO13 := Lib.hid (HO12.out.keepN (gb_below b13))
                have HS13 := Lib.hid (HS.out.keepB D13)
                clear b13 D12 HL12 HS12 HO12
                clear HM12 HP12
                obtain ⟨q8, o8, hq8, hlt8, z0, z1⟩ := HO13.out.1.at_ 0 (by simp)
                subst hq8
                replace z0 : W13.cell? ⟨q8, o8, none⟩ = some (.int .i64 B) := z0
                replace z1 : W13.cell? ⟨q8, o8 + 1, none⟩ = some (.int .i64 V) := z1
                have hBB : (B == B) = true := by simp
                have hVV : (V == V) = true := by simp
                go_wp2_with fail
                refine (range_ser b 128 s x (m - 1) W13 HS13.out (by omega) HST.out.rise (by omega)).mono ?_
                rintro e W14 ⟨a14, c14, rfl, l14, b14⟩
                rw [HNI.out]
                rw [List.length_nil]
                have D14 := D13.trans (b14.mono D13.size)
                clear b14 l14
                go_wp2_with fail
                refine (sknown_any W14).mono ?_
                rintro e W15 ⟨rfl, b15⟩
                have D15 := D14.trans (b15.mono D14.size)
                have B15 := BX.trans ((B1.trans (D15.mono B1.size)).mono (Nat.le_of_lt nX))
                clear b15
                go_wp2
                go_ret
                exact ⟨rfl, B15⟩
              · skip
                have HG := Lib.hid hg
                have HF := Lib.hid h1
                clear hg h1 hno
                go_wp2_with fail
                refine (get_ser b 128 s B 0 5 W6 HG.out HS6.out (by omega) HST.out.rise (by omega)).mono ?_
                rintro e W7 ⟨rfl, b7⟩
                have D7 := D6.trans (b7.mono D6.size)
                have HL7 := Lib.hid (HL6.out.keepN (gb_below b7))
                have HS7 := Lib.hid (HS.out.keepB D7)
                clear b7 D6 HL6 HS6
                go_wp2_with fail
                refine (range_ser b 128 s B B W7 HS7.out (by omega) HST.out.rise (by omega)).mono ?_
                rintro e W8 ⟨a8, c8, rfl, l8, b8⟩
                rw [HF.out] at l8 ⊢
                have D8 := D7.trans (b8.mono D7.size)
                have HL8 := Lib.hid (HL7.out.keepN (gb_below b8))
                have HS8 := Lib.hid (HS.out.keepB D8)
                have HO8 := Lib.hid l8
                clear b8 D7 HL7 HS7 l8
                simp only [List.length_cons, List.length_nil, Nat.zero_add]
                go_wp2_with fail
                refine (range_ser b 128 s m x W8 HS8.out (by omega) HST.out.rise (by omega)).mono ?_
                rintro e W9 ⟨a9, c9, rfl, l9, b9⟩
                rw [HLL.out, HNN.out] at l9
                rw [HLL.out, HNN.out]
                have D9 := D8.trans (b9.mono D8.size)
                have HL9 := Lib.hid (HL8.out.keepN (gb_below b9))
                have HO9 := Lib.hid (HO8.out.keepN (gb_below b9))
                have HS9 := Lib.hid (HS.out.keepB D9)
                clear b9 D8 HL8 HS8 HO8
                have HM9 := Lib.hid l9
                clear l9
                go_wp2_with fail
                refine (same_any a9 a6 n n c9 c6 L L W9 HM9.out.1 HL9.out.1).mono ?_
                rintro e W10 ⟨rfl, d10⟩
                have b10 := drew_below d10
                clear d10
                rw [show decide (L = L) = true from decide_eq_true rfl]
                have D10 := D9.trans (b10.mono D9.size)
                have HL10 := Lib.hid (HL9.out.keepN (gb_below b10))
                have HO10 := Lib.hid (HO9.out.keepN (gb_below b10))
                have HS10 := Lib.hid (HS.out.keepB D10)
                clear b10 D9 HL9 HS9 HO9
                clear HM9
                go_wp2_with fail
                refine (back_ser b 128 s m x W10 HS10.out (by omega) HST.out.rise (by omega)).mono ?_
                rintro e W11 ⟨a11, c11, rfl, l11, b11⟩
                rw [HLL.out, List.length_reverse, HNN.out] at l11
                rw [HLL.out, List.length_reverse, HNN.out]
                have D11 := D10.trans (b11.mono D10.size)
                have HL11 := Lib.hid (HL10.out.keepN (gb_below b11))
                have HO11 := Lib.hid (HO10.out.keepN (gb_below b11))
                have HS11 := Lib.hid (HS.out.keepB D11)
                clear b11 D10 HL10 HS10 HO10
                have HM11 := Lib.hid l11
                clear l11
                go_wp2_with fail
                refine (turned_any a6 n c6 L W11 HL11.out (by omega)).mono ?_
                rintro e W12 ⟨a12, c12, rfl, l12, b12⟩
                have HM12 := Lib.hid (HM11.out.keepN (gb_below b12))
                have D12 := D11.trans (b12.mono D11.size)
                have HL12 := Lib.hid (HL11.out.keepN (gb_below b12))
                have HO12 := Lib.hid (HO11.out.keepN (gb_below b12))
                have HS12 := Lib.hid (HS.out.keepB D12)
                clear b12 D11 HL11 HS11 HO11
                have HP12 := Lib.hid l12
                clear l12 HM11
                go_wp2_with fail
                refine (same_any a11 a12 n n c11 c12 L.reverse L.reverse W12 HM12.out.1 HP12.out.1).mono ?_
                rintro e W13 ⟨rfl, d13⟩
                have b13 := drew_below d13
                clear d13
                rw [show decide (L.reverse = L.reverse) = true from decide_eq_true rfl]
                have D13 := D12.trans (b13.mono D12.size)
                have HL13 := Lib.hid (HL12.out.keepN (gb_below b13))
                have HO13 := Lib.hid (HO12.out.keepN (gb_below b13))
                have HS13 := Lib.hid (HS.out.keepB D13)
                clear b13 D12 HL12 HS12 HO12
                clear HM12 HP12
                go_wp2_with fail
                refine (range_ser b 128 s x (m - 1) W13 HS13.out (by omega) HST.out.rise (by omega)).mono ?_
                rintro e W14 ⟨a14, c14, rfl, l14, b14⟩
                rw [HNI.out]
                rw [List.length_nil]
                have D14 := D13.trans (b14.mono D13.size)
                clear b14 l14
                go_wp2_with fail
                refine (sknown_any W14).mono ?_
                rintro e W15 ⟨rfl, b15⟩
                have D15 := D14.trans (b15.mono D14.size)
                have B15 := BX.trans ((B1.trans (D15.mono B1.size)).mono (Nat.le_of_lt nX))
                clear b15
                go_wp2
                go_ret
                exact ⟨rfl, B15⟩
set_option maxRecDepth 100000 in
theorem lifted (os : Os) (started : os.Started) (H : Type) (enc : TypeId × Value → H) :
    ReturnsInHanded {} Try.checked os 6 .any (Rows.seriesRangesSpec.pre6 enc Try.prog Try.f6 Rows.seriesRangesRow.domain false) (Rows.seriesRangesSpec.post enc Try.prog Try.f6 false true false false) := by
  refine returnsInHanded_of_change (C := Try.checked) own started (by kernel_rfl) Try.func6
    (ChangeSpec.witness6 (enc := enc) (C := Try.checked) false ⟨#[], #[.slice none 0 0, .agg #[.int .i64 0, .int .i64 0, .int .i64 0]], []⟩ 8 (by kernel_rfl) (by kernel_rfl) (by kernel_rfl) (by kernel_rfl)) ?_
  intro W base args ds gs before hval0 hW hcnd _
  have hval : ∀ (j : Nat) t v, Try.f6.params[j]? = some t → args[j]? = some v → Value.okWide Try.prog W .any base t v := hval0
  have hW' := hW
  obtain ⟨p, q, hA0, hV, rfl, hfz, hnd⟩ := hW
  have hA : DataW.TrodAll enc Try.prog W 0 (fun _ => true) true Try.f6.params.toList args.toList ds p := hA0
  rw [Try.params6] at hA hval
  obtain ⟨v0, vs0, d0, ds0, p0, q0, hargs, rfl, rfl, h0, r0⟩ := trodAll_cons hA
  obtain ⟨v1, vs1, d1, ds1, p1, q1, rfl, rfl, rfl, h1, r1⟩ := trodAll_cons r0
  obtain ⟨rfl, rfl, rfl⟩ := trodAll_nil r1
  obtain rfl : args = #[v0, v1] := by cases args; simp_all
  obtain ⟨rfl, rfl⟩ := trodVars_none hV
  obtain ⟨a0, len0, cap0, rfl⟩ := okWide_slice Try.underlying23 (hval 0 23 v0 rfl rfl)
  have k0 := h0
  have lt0 : ∀ x ∈ p0, x.block < W.heap.size := by obtain ⟨m, hm⟩ := k0; exact DataW.trod_lt m _ _ _ hm
  obtain ⟨z0, w0⟩ := open_sops h0
  have k1 := h1
  have lt1 : ∀ x ∈ p1, x.block < W.heap.size := by obtain ⟨m, hm⟩ := k1; exact DataW.trod_lt m _ _ _ hm
  obtain ⟨a1, rfl, w1⟩ := open_arr3 (hval 1 47 v1 rfl rfl) h1
  clear hA0 hval0
  refine (walk a0 len0 cap0 z0 a1 W w0 w1).mono fun e W' ⟨he, bel⟩ => ?_
  subst he
  exact ⟨_, rfl, _, _, _, [], _, [], hW', trodAll_mk1 (shut_bool Try.underlying4 _), (trodAll_cons_mk (Below.trod laidOut (by kernel_rfl) (of_decide_eq_true (by kernel_rfl)) k0 bel lt0) (trodAll_cons_mk (Below.trod laidOut (by kernel_rfl) (of_decide_eq_true (by kernel_rfl)) k1 bel lt1) trodAll_mk0)), rfl, bel.frame _, fun h => by cases h⟩

theorem over : Rows.seriesRangesRow.holds Try.pinned (OpenSpec.ofChange Rows.seriesRangesSpec) :=
  OpenClaim.holds_of_wide 6 Try.f6 rfl rfl rfl rfl rfl rfl rfl ⟨rfl, rfl, rfl, rfl, rfl⟩ rfl rfl rfl rfl rfl (by kernel_rfl) Try.func6 (by kernel_rfl)
    (of_decide_eq_true (by kernel_rfl)) (by unfold Func.isWrapper; first | (rw [if_pos (by decide +kernel)]; kernel_rfl) | (rw [if_neg (by decide +kernel)]; exact ⟨rfl, rfl⟩))
    (fun os started H enc _ => lifted os started H enc)

theorem proved : Rows.SeriesRangesSaid := over
end seriesRanges
theorem seriesRanges_holds : Rows.SeriesRangesSaid := seriesRanges.proved
#print axioms seriesRanges_holds
end Go.Proofs.Ytpbhdlhbcfkhfaa
