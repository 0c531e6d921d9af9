/-
  Contract of the document's own answer for layer 2: Decode: bits' samples.
  Condition: at most 4000 bits, and at most 100000 samples are asked for.
-/
import Derived.Test.YtoanifeffegkiaaRGet
import Derived.Test.YtoanifeffegkiaaDDec
import Derived.Test.YtoanifeffegkiaaKeep
namespace Go.Proofs.Ytoanifeffegkiaa
open Go.RowKit
set_option linter.unusedVariables false
set_option linter.unusedSimpArgs false

set_option maxHeartbeats 400000 in
theorem rzag_any (u : Int) (w : World) (h1 : 0 ≤ u) (h2 : u ≤ 18446744073709551615) :
    Calls Try.prog 42 #[.int .u64 u] w fun e w' => e = .returned (.int .i64 (zag u)) ∧ w = w' := by
  by_cases h : u % 2 = 0
  all_goals
    go_enter Try.func42, Try.ntmps42
    go_wp2
    go_ret
    exact ⟨ret_int (by unfold zag; split <;> omega), rfl⟩
theorem rzagZ_any (u : Nat) (w : World) (h : u < 18446744073709551616) :
    Calls Try.prog 42 #[.int .u64 (u : Int)] w fun e w' => e = .returned (.int .i64 (zagZ u)) ∧ w = w' := by
  have := rzag_any (u : Int) w (by omega) (by omega)
  rwa [zag_Z u] at this

theorem slice_to64 (a : Option Addr) (L cap : Nat) (h : 64 ≤ cap) (W : World) :
    (Instr.slice 31 (.slice a L cap) none (some (.int .i64 64)) none).run Try.prog W = .ok (.slice a 64 cap) W := slice_to a L cap 64 h W

/-- A cell of a row of samples of the call's own. -/
theorem own_at {W : World} {base k : Nat} {v : Value} {out : List (Int × Int)} (hown : W.ownsRow base 59 2 v k (smpCells out)) (hol : out.length = k) (hall : All64 out) (p : Nat) (hp : p < k) :
    ∃ g cp, v = .slice (some ⟨g, 0, none⟩) k cp ∧ base ≤ g ∧ g < W.heap.size ∧ W.cell? ⟨g, p * 2, none⟩ = some (.int .i64 (tOf out p)) ∧ W.cell? ⟨g, p * 2 + 1, none⟩ = some (.int .i64 (vOf out p)) := by
  rcases hown.2 with ⟨_, h0⟩ | ⟨g, cp, cur, rfl, hgb, hgc, hle, hmx, hsz, htk⟩
  · omega
  · refine ⟨g, cp, rfl, hgb, heap_lt hgc, ?_⟩
    obtain ⟨h1, h2⟩ := smpCells_get out p (by omega)
    rw [← htk, List.getElem?_take, if_pos (by omega), Array.getElem?_toList] at h1 h2
    unfold tOf vOf
    rw [List.getD_eq_getElem?_getD, List.getElem?_eq_getElem (by omega), cell_of hgc, cell_of hgc]
    exact ⟨h1, h2⟩

/-- What the loop knows. -/
def DecRel (w : World) (bs : List Bool) (n len : Nat) (o r st i : Value) (wr : World) : Prop :=
  ∃ (k q : Nat) (out : List (Int × Int)) (s : Int) (ar : Option Addr) (capr : Nat), k ≤ n ∧ out.length = k ∧ Hid (decS k bs = .ok (out, s, bs.drop q)) ∧ q ≤ len ∧ i = .int .i64 (k : Int) ∧ st = .int .i64 s ∧
    wr.ownsRow w.heap.size 59 2 o k (smpCells out) ∧ r = .slice ar (len - q) capr ∧ BoolsAt w ar (len - q) (bs.drop q) ∧ len - q ≤ capr ∧ Below w.heap.size w wr

set_option maxRecDepth 100000 in
set_option maxHeartbeats 4000000 in
theorem rdecode_any (a : Option Addr) (len cap : Nat) (bs : List Bool) (n : Nat) (w : World) (h : BoolsAt w a len bs) (hc : len ≤ cap) (hl : len ≤ 4000) (hn : n ≤ 100000) :
    Calls Try.prog 23 #[.slice a len cap, .int .i64 (n : Int)] w (DecP n (decAll n bs) w) := by
  have HBL := Lib.hid h.1
  have H := Lib.hid h
  clear h
  obtain ⟨i0, hi, hz0, hz1, hz2⟩ := info_parts info_samp
  go_enter Try.func23, Try.ntmps23
  go_wp2
  go_loopw [6, 7, 8, 9] (fun o r st i wr => DecRel w bs n len o r st i wr) (fun _ _ _ i _ => n - (intOf i).toNat)
  case atStart => exact ⟨0, 0, [], 0, a, cap, Nat.zero_le _, rfl, rfl, Nat.zero_le _, rfl, rfl, World.ownsRow_nil _ _ _ _, rfl, H.out, hc, Below.refl _ _⟩
  case round =>
    obtain ⟨k, q, out, s, ar, capr, hkn, hol, HD, hq, rfl, rfl, hown, rfl, hba, hcr, B2⟩ := hrel
    have s2 := B2.size
    have HBA := Lib.hid hba
    clear hba
    by_cases hk : k < n
    · by_cases hk0 : k = 0
      · subst hk0
        have hq0 : q = 0 := by
          have := HD.out
          simp only [decS, Except.ok.injEq, Prod.mk.injEq] at this
          have h2 := congrArg List.length this.2.2
          simp at h2
          have := HBL.out
          omega
        have hs0 : out = [] ∧ s = 0 := by
          have := HD.out
          simp only [decS, Except.ok.injEq, Prod.mk.injEq] at this
          exact ⟨this.1.symm, this.2.1.symm⟩
        obtain ⟨rfl, rfl⟩ := hs0
        subst hq0
        rw [Nat.sub_zero] at hcr HBA ⊢
        rw [List.drop_zero] at HBA
        replace hown : wr.ownsRow w.heap.size 59 2 u6 0 [] := hown
        have hk1 : (0 : Int) < (n : Int) := by omega
        clear HD hol hkn
        by_cases h128 : len < 128
        · have h128I : (len : Int) < 128 := by omega
          have HDE := Lib.hid (show decAll n bs = .error 3 from decAll_err (n := 1) (by rw [decS]; exact decOne_no bs 64 (by rw [HBL.out]; omega)) (by omega))
          go_wp2
          go_ret2
          refine ⟨B2, ?_⟩
          rw [HDE.out]
          exact ⟨by omega, rfl⟩
        · have h128I : ¬ (len : Int) < 128 := by omega
          have HD1 := Lib.hid (show decS 1 bs = _ from decOne_ok bs 64 (by rw [HBL.out]; omega))
          have hsl1 := slice_to64 ar len capr (by omega)
          obtain ⟨a2, hsl2, hb2⟩ := bslice_part HBA.out hcr 64 64 64 128 rfl rfl (by omega)
          have hb1 := bools_take HBA.out 64 (by omega)
          obtain ⟨a3, hsl3, hb3, hcr3⟩ := bslice_from HBA.out hcr 128 (by omega)
          rw [show ((128 : Nat) : Int) = 128 from rfl] at hsl3
          have u1 := num_take_lt64 bs 0 64 (by omega)
          have u2 := num_take_lt64 bs 64 64 (by omega)
          rw [List.drop_zero] at u1
          have HB1 := Lib.hid hb1
          have HB2 := Lib.hid hb2
          have HB3 := Lib.hid hb3
          clear hb1 hb2 hb3
          obtain ⟨p1, hp1⟩ : ∃ p1, bs.take 64 = p1 := ⟨_, rfl⟩
          obtain ⟨p2, hp2⟩ : ∃ p2, (bs.drop 64).take 64 = p2 := ⟨_, rfl⟩
          rw [hp1] at u1 HB1 HD1
          rw [hp2] at u2 HB2 HD1
          clear hp1 hp2
          obtain ⟨T, hT⟩ : ∃ T, num p1 = T := ⟨_, rfl⟩
          obtain ⟨V, hV⟩ : ∃ V, num p2 = V := ⟨_, rfl⟩
          rw [hT] at u1 HD1
          rw [hV] at u2 HD1
          have HT := Lib.hid hT
          have HV := Lib.hid hV
          obtain ⟨xt, hxt⟩ : ∃ xt, IntKind.i64.wrap (T : Int) = xt := ⟨_, rfl⟩
          obtain ⟨xv, hxv⟩ : ∃ xv, IntKind.i64.wrap (V : Int) = xv := ⟨_, rfl⟩
          rw [← IntWalk.i64_left, ← IntWalk.i64_left, hxt, hxv] at HD1
          have HON : Hid (∀ u ∈ [Value.int .i64 xt, Value.int .i64 xv], u.oneCell' = true) := by
            intro u hu
            simp at hu
            rcases hu with rfl | rfl <;> rfl
          have hlt64 : (64 : Int) ≤ (capr : Int) := by omega
          clear hT hV
          go_wp2_with fail
          go_region_held3 (fun w' => True) (trivial)
            (first
              | (go_at_call 39
                 (with_reducible refine (number_any ar 64 _ p1 _ (HB1.out.keep B2.drew) (by decide)).mono ?_)
                 rintro e w' ⟨rfl, rfl⟩
                 rw [HT.out])
              | (go_at_call 39
                 (with_reducible refine (number_any a2 64 _ p2 _ (HB2.out.keep B2.drew) (by decide)).mono ?_)
                 rintro e w' ⟨rfl, rfl⟩
                 rw [HV.out])
              | (refine step_append_lies _ (by rfl) _ _ _ (by rfl) w.heap.size 59 i0 _ 2 16 Try.underlying23 hi hz0 hz1 hz2 rfl (by omega) u6 0 _ (by rfl) ((hown.alloc _).drew)
                  ⟨wr.heap.size, 0, none⟩ 1 1 [.int .i64 xt, .int .i64 xv] (by rfl) (by rfl) (World.news_of_block (cs := #[.int .i64 xt, .int .i64 xv]) (t := 59) (fr := (0, 0)) (heap_alloc_new wr _)) HON.out
                  (by omega) (by unfold maxLen; omega) (by omega) (by simp; omega) (wr.heap.size + 1) (by simp) ?_
                 intro gg cp8 w8 ho8 hgrow hat hlt))
          have B8 := ((B2.alloc s2 (.cells #[.int .i64 xt, .int .i64 xv] 59)).drew).grown hgrow (by simp; omega) (fun k hk => (hown.lt k hk).1)
          clear hown hgrow B2 s2 hat hlt hxt hxv
          go_wp2
          go_roundw
          case rel => exact ⟨1, 64 + 64, [(xt, xv)], 0, a3, capr - 128, by omega, rfl, HD1, by omega, by rfl, rfl, ho8, by rw [show len - (64 + 64) = len - 128 from rfl], HB3.out, hcr3, B8⟩
          case measure => simp [intOf]; omega
      · obtain ⟨p, hp⟩ : ∃ p, k = p + 1 := ⟨k - 1, by omega⟩
        have hkne : ((k : Int) == 0) = false := by rw [beq_eq_false_iff_ne]; omega
        have hkI : (k : Int) < (n : Int) := by omega
        have hall := (enc_decS _ _ _ _ _ HD.out).2.1
        obtain ⟨g, cpo, rfl, hgb, hgl, ct, cv⟩ := own_at hown hol hall p (by omega)
        have HP := Lib.hid hp
        have HOL := Lib.hid hol
        obtain ⟨a1, m1, e1, hg1⟩ : ∃ a1 m1 e1, gets (bs.drop q) = (a1, m1, e1) := ⟨_, _, _, rfl⟩
        have HDP : Hid (decS (p + 1) bs = .ok (out, s, bs.drop q)) := by rw [← HP.out]; exact HD
        have hget1 := rget_any ar (len - q) capr (bs.drop q) wr (HBA.out.keep B2) hcr (by omega)
        rw [hg1] at hget1
        clear HD hk0 hol hall
        by_cases he1 : e1 = 0
        · subst he1
          have hg1' := gets_ok hg1
          have hm1 : m1 ≤ len - q := by have := hg1'.2.2.1; simp at this; have := HBL.out; omega
          have ha1 := hg1'.1
          clear hg1'
          obtain ⟨a', hsl, hb', hcr'⟩ := bslice_from HBA.out hcr m1 hm1
          obtain ⟨a2, m2, e2, hg2⟩ : ∃ a2 m2 e2, gets ((bs.drop q).drop m1) = (a2, m2, e2) := ⟨_, _, _, rfl⟩
          have HB' := Lib.hid hb'
          clear hb'
          go_wp2_with fail
          refine hget1.mono ?_
          rintro e W3 ⟨rfl, b3⟩
          simp only
          have B3 := bel_gbn B2 s2 (gb_below b3)
          have s3 := Nat.le_trans s2 b3.size
          have o3 := hown.kept (gb_below (row := none) b3) (by simp; exact Classical.em _)
          rw [← b3.cell hgl] at ct cv
          have hgl3 := Nat.lt_of_lt_of_le hgl b3.size
          clear hown B2 s2 b3 hget1 hgl
          have hget2 := rget_any a' (len - q - m1) (capr - m1) ((bs.drop q).drop m1) W3 (HB'.out.keep B3) hcr' (by omega)
          rw [hg2] at hget2
          by_cases he2 : e2 = 0
          · subst he2
            have hg2' := gets_ok hg2
            have hm2 : m1 + m2 ≤ len - q := by have := hg2'.2.2.1; simp at this; have := HBL.out; omega
            have ha2 := hg2'.1
            have HDN := Lib.hid (decS_more HDP.out hg1 hg2)
            clear hg2' hg1 hg2
            obtain ⟨a'', hsl2, hb'', hcr''⟩ := bslice_from HBA.out hcr (m1 + m2) hm2
            rw [show (((m1 + m2 : Nat) : Int)) = (m1 : Int) + (m2 : Int) from by omega] at hsl2
            rw [List.drop_drop] at hb'' HDN
            rw [show len - q - (m1 + m2) = len - (q + (m1 + m2)) from by omega] at hb'' hcr'' hsl2
            have HB'' := Lib.hid hb''
            clear hb''
            go_wp2_with fail
            refine hget2.mono ?_
            rintro e W4 ⟨rfl, b4⟩
            simp only
            have B4 := bel_gbn B3 s3 (gb_below b4)
            have s4 := Nat.le_trans s3 b4.size
            have o4 := o3.kept (gb_below (row := none) b4) (by simp; exact Classical.em _)
            rw [← b4.cell hgl3] at ct cv
            have hgl4 := Nat.lt_of_lt_of_le hgl3 b4.size
            clear o3 B3 s3 b4 hget2 hgl3
            go_wp2_with fail
            refine (rzagZ_any a1 _ ha1).mono ?_
            rintro e w' ⟨rfl, rfl⟩
            obtain ⟨T, hT⟩ : ∃ T, tOf out p = T := ⟨_, rfl⟩
            obtain ⟨V, hV⟩ : ∃ V, vOf out p = V := ⟨_, rfl⟩
            rw [hT] at ct
            rw [hV] at cv
            have HX := Lib.hid (show nextS (out.getD p (0, 0)) s a1 a2 = (wrap64 (T + wrap64 (s + zagZ a1)), wrap64 (V + zagZ a2)) from by rw [← hT, ← hV]; rfl)
            clear hT hV
            obtain ⟨st', hst'⟩ : ∃ st', wrap64 (s + zagZ a1) = st' := ⟨_, rfl⟩
            rw [hst'] at HX HDN
            obtain ⟨zv, hzv⟩ : ∃ zv, zagZ a2 = zv := ⟨_, rfl⟩
            have HZV := Lib.hid hzv
            rw [hzv] at HX
            obtain ⟨xt, hxt⟩ : ∃ xt, IntKind.i64.wrap (T + st') = xt := ⟨_, rfl⟩
            obtain ⟨xv, hxv⟩ : ∃ xv, IntKind.i64.wrap (V + zv) = xv := ⟨_, rfl⟩
            rw [← IntWalk.i64_left, ← IntWalk.i64_left, hxt, hxv] at HX
            rw [HX.out] at HDN
            have HST := Lib.hid hst'
            generalize zagZ a1 = z1 at *
            have hpI : IntKind.i64.wrap ((k : Int) - 1) = (p : Int) := by rw [IntWalk.i64_in _ ⟨by omega, by omega⟩]; omega
            have hp0 : (0 : Int) ≤ (p : Int) := by omega
            have hp1 : (p : Int) < (k : Int) := by omega
            have hpk : p * 2 + 1 < k * 2 := by omega
            have HON : Hid (∀ u ∈ [Value.int .i64 xt, Value.int .i64 xv], u.oneCell' = true) := by
              intro u hu
              simp at hu
              rcases hu with rfl | rfl <;> rfl
            have hbw := (((Below.refl W4.heap.size W4).alloc (Nat.le_refl _) (.cells #[.int .i64 xt, .int .i64 xv] 59)).drew)
            have HCT := Lib.hid ((hbw.cell (p := ⟨g, p * 2, none⟩) hgl4).trans ct)
            have HCV := Lib.hid ((hbw.cell (p := ⟨g, p * 2 + 1, none⟩) hgl4).trans cv)
            have HDT : Hid (W4.drew.cell? ⟨g, p * 2, none⟩ = some (.int .i64 T)) := ct
            have HDV : Hid (W4.drew.cell? ⟨g, p * 2 + 1, none⟩ = some (.int .i64 V)) := cv
            clear hzv hp hbw
            go_wp2_with fail
            go_region_held3 (fun w' => w'.cell? ⟨g, p * 2, none⟩ = some (.int .i64 T) ∧ w'.cell? ⟨g, p * 2 + 1, none⟩ = some (.int .i64 V))
              (first
                | (exact ⟨(hkeep (p * 2) (Nat.lt_of_succ_lt hpk)).trans HCT.out, (hkeep (p * 2 + 1) hpk).trans HCV.out⟩)
                | (exact ⟨HCT.out, HCV.out⟩)
                | (exact ⟨HDT.out, HDV.out⟩)
                | go_keep)
              (first
                | (go_at_call 42
                   (with_reducible refine (rzagZ_any a2 _ ha2).mono ?_)
                   rintro e w' ⟨rfl, rfl⟩
                   rw [HZV.out])
                | (refine step_append_keep _ (by rfl) _ _ _ (by rfl) w.heap.size 59 i0 _ 2 16 Try.underlying23 hi hz0 hz1 hz2 rfl (by omega) g k cpo _ (by rfl) ((o4.alloc _).drew)
                    ⟨W4.heap.size, 0, none⟩ 1 1 [.int .i64 xt, .int .i64 xv] (by rfl) (by rfl) (World.news_of_block (cs := #[.int .i64 xt, .int .i64 xv]) (t := 59) (fr := (0, 0)) (heap_alloc_new W4 _)) HON.out
                    (by omega) (by unfold maxLen; omega) (by omega) (by simp; omega) ?_
                   intro gg cp8 w8 ho8 hgrow hkeep))
            have B8 := ((B4.alloc s4 (.cells #[.int .i64 xt, .int .i64 xv] 59)).drew).grown hgrow (by simp; omega) (fun k hk => by simp at hk; omega)
            clear o4 hgrow hkeep B4 s4 hxt hxv ct cv hpI
            go_wp2
            go_roundw
            case rel =>
              refine ⟨k + 1, q + (m1 + m2), out ++ [(xt, xv)], st', a'', capr - (m1 + m2), by omega, by simp [HOL.out], ?_, by omega, by go_num, by first | rfl | rw [HST.out], ?_, rfl, HB''.out, hcr'', B8⟩
              · rw [show k + 1 = p + 2 from by rw [HP.out]]; exact HDN
              · rw [smpCells_snoc]; exact ho8
            case measure => simp [intOf]; omega
          · have HDE := Lib.hid (decAll_err (decS_err2 HDP.out hg1 hg2 he2) (show p + 2 ≤ n from by omega))
            have hne2 : (e2 != 0) = true := bne_iff_ne.2 he2
            have HE2 := Lib.hid he2
            clear hg1 hg2 he2
            go_wp2_with fail
            refine hget2.mono ?_
            rintro e W4 ⟨rfl, b4⟩
            simp only
            have B4 := bel_gbn B3 s3 (gb_below b4)
            clear o3 B3 s3 b4 hget2
            go_wp2
            go_ret2
            refine ⟨B4, ?_⟩
            rw [HDE.out]
            exact ⟨HE2.out, rfl⟩
        · have HDE := Lib.hid (decAll_err (decS_err1 HDP.out hg1 he1) (show p + 2 ≤ n from by omega))
          have hne1 : (e1 != 0) = true := bne_iff_ne.2 he1
          have HE1 := Lib.hid he1
          clear hg1 he1
          go_wp2_with fail
          refine hget1.mono ?_
          rintro e W3 ⟨rfl, b3⟩
          simp only
          have B3 := bel_gbn B2 s2 (gb_below b3)
          clear hown B2 s2 b3 hget1
          go_wp2
          go_ret2
          refine ⟨B3, ?_⟩
          rw [HDE.out]
          exact ⟨HE1.out, rfl⟩
    · have HKN := Lib.hid (show k = n from by omega)
      have hkI : ¬ (k : Int) < (n : Int) := by omega
      have hall := (enc_decS _ _ _ _ _ HD.out).2.1
      have hown' : wr.ownsRow w.heap.size 59 2 u6 out.length (smpCells out) := by rw [hol]; exact hown
      obtain ⟨ad, cp, rfl, hs', hbk'⟩ := owns_samps hall (by omega) hown'
      rw [hol] at hs' ⊢
      have HS := Lib.hid hs'
      have HBK := Lib.hid hbk'
      clear hs' hbk' hown' hown hol hall
      by_cases hre : len - q = 0
      · have HR := Lib.hid (show bs.drop q = [] from by rw [List.drop_eq_nil_iff, HBL.out]; omega)
        rw [hre]
        go_wp2
        go_ret2
        refine ⟨B2, ?_⟩
        have hkn' := HKN.out
        subst hkn'
        rw [decAll, HD.out]
        simp only [HR.out, if_true]
        exact ⟨ad, cp, rfl, HS.out, fun x hx => (HBK.out x hx).2⟩
      · have HR := Lib.hid (show bs.drop q ≠ [] from by rw [Ne, List.drop_eq_nil_iff, HBL.out]; omega)
        have hlI : (0 : Int) < ((len - q : Nat) : Int) := by omega
        generalize len - q = L at *
        go_wp2
        go_ret2
        refine ⟨B2, ?_⟩
        have hkn' := HKN.out
        subst hkn'
        rw [decAll, HD.out]
        simp only [if_neg HR.out]
        exact ⟨by omega, rfl⟩

end Go.Proofs.Ytoanifeffegkiaa
