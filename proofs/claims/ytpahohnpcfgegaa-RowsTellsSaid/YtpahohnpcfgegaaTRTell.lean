/-
  Contract of the document's own Tell of layer 7.
  Condition: at most 10000 samples.
-/
import Derived.Test.YtpahohnpcfgegaaTRPass
import Derived.Test.YtpahohnpcfgegaaTRFill
import Derived.Test.YtpahohnpcfgegaaARBuck
import Derived.Deep.RegionHeld3
namespace Go.Proofs.Ytpahohnpcfgegaa
open Go.RowKit
set_option linter.unusedVariables false
set_option linter.unusedSimpArgs false

theorem rpass_x (q : Qry) (a : Option Addr) (n c : Nat) (t v : Int) (w : World) (h : IntAt w a n c q.tm) :
    Calls Try.prog 17 #[.agg #[.int .i64 q.fr, .int .i64 q.to, .bool q.back, .int .i64 q.cnt, .int .i64 q.kd, .int .i64 q.sz, .int .i64 q.al, .bool q.emp, .slice a n c, .bool q.vals, .int .i64 q.lo, .int .i64 q.hi], .agg #[.int .i64 t, .int .i64 v]] w fun e w' => e = .returned (.bool (passB q (t, v))) ∧ Below w.heap.size w w' := rpass_any q a n c (t, v) w h
theorem rright_x (q : Qry) (a : Option Addr) (n c : Nat) (w : World) (hn : q.tm.length = n) (hm : n ≤ 9223372036854775807) :
    Calls Try.prog 15 #[.agg #[.int .i64 q.fr, .int .i64 q.to, .bool q.back, .int .i64 q.cnt, .int .i64 q.kd, .int .i64 q.sz, .int .i64 q.al, .bool q.emp, .slice a n c, .bool q.vals, .int .i64 q.lo, .int .i64 q.hi]] w fun e w' => e = .returned (.int .i64 (errR q)) ∧ Below w.heap.size w w' := rright7_any q a n c w hn hm

set_option maxRecDepth 100000 in
set_option maxHeartbeats 8000000 in
theorem rtell_any (q : Qry) (a : Option Addr) (n c : Nat) (sa : Option Addr) (len cap : Nat) (z : List (Int × Int)) (w : World) (h : SampAt w sa len cap z) (hi : IntAt w a n c q.tm) (hl : len ≤ 10000) :
    Calls Try.prog 11 #[.slice sa len cap, qv q a n c] w (TellP (tellR q z) w) := by
  have HL := Lib.hid h.1
  have hlc := h.2.1
  have HS := Lib.hid h
  have HI := Lib.hid hi
  have HN := Lib.hid (show q.tm.length = n ∧ n ≤ 9223372036854775807 from ⟨hi.1, hi.2.2.1⟩)
  have B0 := (Below.refl w.heap.size w).alloc (Nat.le_refl _) (.cells (qcs q a n c) 33)
  have hq0 := heap_new w (.cells (qcs q a n c) 33)
  have s0 : w.heap.size < (w.alloc (.cells (qcs q a n c) 33)).heap.size := by simp
  have HQ := Lib.hid (qc_of hq0)
  unfold qcs at B0 s0 HQ
  clear hq0 h hi
  unfold qv
  by_cases hr : rightQ q
  · have HE := Lib.hid (show errR q = 0 from if_pos hr)
    have ET := Lib.hid (show tellR q z = if (madeR q (z.filter (passB q))).2 = 0 then (cutR q.cnt (turnR q.back (madeR q (z.filter (passB q))).1), 0) else ([], (madeR q (z.filter (passB q))).2) from if_pos hr)
    have HC := Lib.hid hr.1
    have HK0 := Lib.hid hr.2.2.1
    clear hr
    go_enter Try.func11, Try.ntmps11
    go_wp2_with fail
    have HS1 := Lib.hid (HS.out.keep B0)
    have HI1 := Lib.hid (HI.out.keep B0)
    generalize w.alloc (.cells #[.int .i64 q.fr, .int .i64 q.to, .bool q.back, .int .i64 q.cnt, .int .i64 q.kd, .int .i64 q.sz, .int .i64 q.al, .bool q.emp, .slice a n c, .bool q.vals, .int .i64 q.lo, .int .i64 q.hi] 33) = W1 at *
    generalize hq : w.heap.size = qb at *
    have HQB := Lib.hid hq
    clear hq
    refine (rright_x q a n c _ HN.out.1 HN.out.2).mono ?_
    rintro e W2 ⟨rfl, b2⟩
    rw [HE.out]
    have B2 := B0.trans (b2.mono (by omega))
    have HS2 := Lib.hid (HS1.out.keep b2)
    have HI2 := Lib.hid (HI1.out.keep b2)
    have HQ2 := Lib.hid (HQ.out.keep b2 s0)
    have s2 : qb < W2.heap.size := by have := b2.size; omega
    have HKQ := Lib.hid (show ∀ W, Below W2.heap.size W2 W → QC W qb q a n c from fun W hW => HQ2.out.keep hW s2)
    have HKI := Lib.hid (show ∀ W, Below W2.heap.size W2 W → IntAt W a n c q.tm from fun W hW => HI2.out.keep hW)
    clear b2 B0 s0 HE
    go_wp2
    go_loopw [7, 8] (fun o i wr => ∃ (j m : Nat), j ≤ len ∧ m ≤ j ∧ i = .int .i64 (j : Int) ∧ Hid (((z.take j).filter (passB q)).length = m) ∧ wr.ownsRow W2.heap.size 27 2 o m (smpCells ((z.take j).filter (passB q))) ∧ Below W2.heap.size W2 wr) (fun _ i _ => len - (intOf i).toNat)
    case atStart => exact ⟨0, 0, Nat.zero_le _, Nat.le_refl _, rfl, Lib.hid (by simp), World.ownsRow_nil _ _ _ _, Below.refl _ _⟩
    case round =>
      obtain ⟨j, m, hj, hm, rfl, HM, hown, B⟩ := hrel
      by_cases hjn : j < len
      · obtain ⟨p, o, ha, hp, x0, x1⟩ := (HS2.out.keep B).at_ j hjn
        subst ha
        have HF := Lib.hid (filter_snoc (passB q) z j (by rw [HL.out]; exact hjn))
        generalize tOf z j = t at *
        generalize vOf z j = v at *
        have s1 := B.size
        have HX := Lib.hid (show ∀ W, Below wr.heap.size wr W → W.cell? ⟨p, o + j * 2, none⟩ = some (.int .i64 t) ∧ W.cell? ⟨p, o + j * 2 + 1, none⟩ = some (.int .i64 v) from fun W hW => ⟨by rw [hW.cell hp]; exact x0, by rw [hW.cell hp]; exact x1⟩)
        have HKW := Lib.hid (show ∀ W, Below wr.heap.size wr W → QC W qb q a n c from fun W hW => HKQ.out _ (B.trans (hW.mono s1)))
        have HKJ := Lib.hid (show ∀ W, Below wr.heap.size wr W → IntAt W a n c q.tm from fun W hW => HKI.out _ (B.trans (hW.mono s1)))
        have BD := Lib.hid ((Below.refl wr.heap.size wr).drew)
        obtain ⟨c0, c1, c2, c3, c4, c5, c6, c7, c8, c9, c10, c11⟩ := HKQ.out _ B
        have HO := Lib.hid hown
        have hjn' : (j : Int) < (len : Int) := by omega
        clear hown
        go_wp2_with fail
        go_region_held3 (fun w' => (w'.cell? ⟨p, o + j * 2, none⟩ = some (.int .i64 t) ∧ w'.cell? ⟨p, o + j * 2 + 1, none⟩ = some (.int .i64 v)) ∧ w'.cell? ⟨qb, 0, none⟩ = some (.int .i64 q.fr) ∧ w'.cell? ⟨qb, 1, none⟩ = some (.int .i64 q.to) ∧ w'.cell? ⟨qb, 2, none⟩ = some (.bool q.back) ∧ w'.cell? ⟨qb, 3, none⟩ = some (.int .i64 q.cnt) ∧ w'.cell? ⟨qb, 4, none⟩ = some (.int .i64 q.kd) ∧ w'.cell? ⟨qb, 5, none⟩ = some (.int .i64 q.sz) ∧ w'.cell? ⟨qb, 6, none⟩ = some (.int .i64 q.al) ∧ w'.cell? ⟨qb, 7, none⟩ = some (.bool q.emp) ∧ w'.cell? ⟨qb, 8, none⟩ = some (.slice a n c) ∧ w'.cell? ⟨qb, 9, none⟩ = some (.bool q.vals) ∧ w'.cell? ⟨qb, 10, none⟩ = some (.int .i64 q.lo) ∧ w'.cell? ⟨qb, 11, none⟩ = some (.int .i64 q.hi))
          (first
            | exact ⟨HX.out _ B3.out, HKW.out _ B3.out⟩
            | exact ⟨HX.out _ BD.out, HKW.out _ BD.out⟩
            | go_keep
            | fail)
          (first
            | (go_at_call 17
               (with_reducible refine (rpass_x q a n c t v _ (HKJ.out _ BD.out)).mono ?_)
               rintro e W3 ⟨rfl, b3⟩
               have B3 := Lib.hid (BD.out.trans (b3.mono BD.out.size))
               clear b3)
            | fail)
        all_goals
          rename_i hHeld
          clear hHeld c0 c1 c2 c3 c4 c5 c6 c7 c8 c9 c10 c11 x0 x1
          have o3 := own_keepN HO.out (gb_below B3.out)
          have BB := B.trans (B3.out.mono s1)
          have s3 := BB.size
          obtain ⟨x0, x1⟩ := HX.out _ B3.out
          cases hps : passB q (t, v)
          · have HF1 := Lib.hid (show (z.take (j + 1)).filter (passB q) = (z.take j).filter (passB q) from by rw [HF.out, hps]; rfl)
            clear hps HF
            go_wp2
            go_roundw
            case rel => exact ⟨j + 1, m, by omega, by omega, by go_num, by rw [HF1.out]; exact HM, by rw [HF1.out]; exact o3, BB⟩
            case measure => simp [intOf]; omega
          · have HF1 := Lib.hid (show (z.take (j + 1)).filter (passB q) = (z.take j).filter (passB q) ++ [(t, v)] from by rw [HF.out, hps]; rfl)
            clear hps HF
            obtain ⟨i0, hi, hz0, hz1, hz2⟩ := info_parts info_samp
            go_wp2_with (at_builtin; refine wpList_append_own _ rfl _ _ 22 rfl W2.heap.size 27 i0 _ 2 16 Try.underlying22 hi hz0 hz1 hz2 rfl (by decide) _ _ _ rfl (o3.alloc _) ⟨W3.heap.size, 0, none⟩ 1 1 [.int .i64 t, .int .i64 v] rfl rfl (two_cells _ _ _ _) (smp_one _ _) (by unfold maxLen; omega) (by omega) (by simp; omega) ?_)
            intro v5 W5 o5 g5 _
            have B5 := (BB.alloc s3 (.cells #[.int .i64 t, .int .i64 v] 27)).grown g5 (by simp; omega) (fun k hk => (o3.lt k hk).1)
            clear g5 hi hz0 hz1 hz2 x0 x1 o3 BB
            go_wp2
            go_roundw
            case rel => exact ⟨j + 1, m + 1, by omega, by omega, by go_num, Lib.hid (by rw [HF1.out, List.length_append, HM.out]; rfl), by rw [HF1.out, smpCells_snoc]; exact o5, B5⟩
            case measure => simp [intOf]; omega
      · obtain rfl : len = j := by omega
        have HT := Lib.hid (show z.take len = z from List.take_of_length_le (by rw [HL.out]; exact Nat.le_refl _))
        rw [HT.out] at HM hown
        have HP64 := Lib.hid (filter64 (passB q) HS2.out.2.2.2.1)
        have HPL := Lib.hid (show (z.filter (passB q)).length ≤ 10000 from Nat.le_trans (List.length_filter_le _ _) (by rw [HL.out]; exact hl))
        rw [← HM.out] at hown
        generalize z.filter (passB q) = P at *
        obtain ⟨ad, cp, rfl, hS, _⟩ := owns_samps HP64.out (by have := HPL.out; omega) hown
        have HSP := Lib.hid hS
        clear hown hS hm HM
        obtain ⟨c0, c1, c2, c3, c4, c5, c6, c7, c8, c9, c10, c11⟩ := HKQ.out _ B
        by_cases hk : q.kd = 0
        · have tk : (q.kd != 0) = false := by rw [bne_eq_false_iff_eq]; exact hk
          have ET2 := Lib.hid (show tellR q z = (cutR q.cnt (turnR q.back P), 0) from by rw [ET.out, show madeR q P = (P, 0) from if_pos hk, if_pos rfl])
          rw [HK0.out hk] at c7
          clear hk ET
          have hbb : q.back = false ∨ q.back = true := by cases q.back <;> simp
          rcases hbb with hb | hb
          · have ET3 := Lib.hid (show tellR q z = (cutR q.cnt P, 0) from by rw [ET2.out, hb]; rfl)
            rw [hb] at c2
            clear hb ET2
            have hcn := HC.out
            by_cases hc0 : q.cnt = 0
            · have tc : ¬ 0 < q.cnt := by omega
              have E2 := Lib.hid (show tellR q z = (P, 0) from by rw [ET3.out]; unfold cutR; rw [if_pos hc0])
              clear hc0 ET3 hcn
              go_wp2
              go_ret2
              exact ⟨_, _, _, (by rw [E2.out]; rfl), (by rw [E2.out]; exact HSP.out), by rw [HQB.out]; exact B2.trans (B.mono (by omega))⟩
            · have tc : 0 < q.cnt := by omega
              obtain ⟨k, hk⟩ : ∃ k : Nat, q.cnt = (k : Int) := ⟨q.cnt.toNat, by omega⟩
              have E2 := Lib.hid (show tellR q z = (P.take k, 0) from by rw [ET3.out]; unfold cutR; rw [if_neg hc0, hk]; rfl)
              by_cases hle : k < P.length
              · obtain ⟨a1, hs1, L1⟩ := samp_to HSP.out k (by omega)
                have HL1 := Lib.hid L1
                have hle' : q.cnt < (P.length : Int) := by omega
                rw [← hk] at hs1
                clear hc0 ET3 hcn L1 hk hle
                go_wp2
                go_ret2
                exact ⟨_, _, _, (by rw [E2.out]; rfl), (by rw [E2.out]; exact HL1.out), by rw [HQB.out]; exact B2.trans (B.mono (by omega))⟩
              · have HL1 := Lib.hid (show SampAt wr ad P.length cp (P.take k) from by rw [List.take_of_length_le (by omega)]; exact HSP.out)
                have hle' : ¬ q.cnt < (P.length : Int) := by omega
                clear hc0 ET3 hcn hk hle
                go_wp2
                go_ret2
                exact ⟨_, _, _, (by rw [E2.out]; rfl), (by rw [E2.out]; exact HL1.out), by rw [HQB.out]; exact B2.trans (B.mono (by omega))⟩
          · have ET3 := Lib.hid (show tellR q z = (cutR q.cnt P.reverse, 0) from by rw [ET2.out, hb]; rfl)
            have HR64 := Lib.hid (show All64 P.reverse from fun u hu => HP64.out u (List.mem_reverse.1 hu))
            have HRL := Lib.hid (show P.reverse.length ≤ 10000 from by rw [List.length_reverse]; exact HPL.out)
            rw [hb] at c2
            clear hb ET2
            go_wp2_with fail
            refine (turned7_any ad _ cp _ _ HSP.out (by have := HPL.out; omega)).mono ?_
            rintro e W9 ⟨v9, rfl, o9, b9⟩
            obtain ⟨ad9, cp9, rfl, hS9⟩ := row_samp HR64.out (by have := HRL.out; omega) o9
            have HS9 := Lib.hid hS9
            have B9 := B.trans (b9.mono B.size)
            clear c0 c1 c2 c3 c4 c5 c6 c7 c8 c9 c10 c11 o9 b9 hS9
            obtain ⟨c0, c1, c2, c3, c4, c5, c6, c7, c8, c9, c10, c11⟩ := HKQ.out _ B9
            generalize P.reverse = R9 at *
            have hcn := HC.out
            by_cases hc0 : q.cnt = 0
            · have tc : ¬ 0 < q.cnt := by omega
              have E2 := Lib.hid (show tellR q z = (R9, 0) from by rw [ET3.out]; unfold cutR; rw [if_pos hc0])
              clear hc0 ET3 hcn
              go_wp2
              go_ret2
              exact ⟨_, _, _, (by rw [E2.out]; rfl), (by rw [E2.out]; exact HS9.out), by rw [HQB.out]; exact B2.trans (B9.mono (by omega))⟩
            · have tc : 0 < q.cnt := by omega
              obtain ⟨k, hk⟩ : ∃ k : Nat, q.cnt = (k : Int) := ⟨q.cnt.toNat, by omega⟩
              have E2 := Lib.hid (show tellR q z = (R9.take k, 0) from by rw [ET3.out]; unfold cutR; rw [if_neg hc0, hk]; rfl)
              by_cases hle : k < R9.length
              · obtain ⟨a1, hs1, L1⟩ := samp_to HS9.out k (by omega)
                have HL1 := Lib.hid L1
                have hle' : q.cnt < (R9.length : Int) := by omega
                rw [← hk] at hs1
                clear hc0 ET3 hcn L1 hk hle
                go_wp2
                go_ret2
                exact ⟨_, _, _, (by rw [E2.out]; rfl), (by rw [E2.out]; exact HL1.out), by rw [HQB.out]; exact B2.trans (B9.mono (by omega))⟩
              · have HL1 := Lib.hid (show SampAt W9 ad9 R9.length cp9 (R9.take k) from by rw [List.take_of_length_le (by omega)]; exact HS9.out)
                have hle' : ¬ q.cnt < (R9.length : Int) := by omega
                clear hc0 ET3 hcn hk hle
                go_wp2
                go_ret2
                exact ⟨_, _, _, (by rw [E2.out]; rfl), (by rw [E2.out]; exact HL1.out), by rw [HQB.out]; exact B2.trans (B9.mono (by omega))⟩
        · have tk : (q.kd != 0) = true := by rw [bne_iff_ne]; exact hk
          have HB64 := Lib.hid (buckT64 (k := q.kd) (size := q.sz) (align := q.al) HP64.out (by have := HPL.out; omega))
          have HBL := Lib.hid (show (buckA q.kd q.sz q.al P).length ≤ 10000 from Nat.le_trans (buckT_few _ _ _ _) HPL.out)
          have HKD := Lib.hid hk
          clear hk
          go_wp2_with fail
          refine (rbuckets_any q.kd q.sz q.al ad P.length cp P wr HSP.out (by have := HPL.out; omega)).mono ?_
          rintro e W4 ⟨v4, rfl, o4, b4⟩
          obtain ⟨ad2, cp2, rfl, hS2⟩ := row_samp HB64.out (by have := HBL.out; omega) o4
          have HSB := Lib.hid hS2
          have B4 := B.trans (b4.mono B.size)
          clear c0 c1 c2 c3 c4 c5 c6 c7 c8 c9 c10 c11 o4 b4 hS2 B
          obtain ⟨c0, c1, c2, c3, c4, c5, c6, c7, c8, c9, c10, c11⟩ := HKQ.out _ B4
          have hee : q.emp = false ∨ q.emp = true := by cases q.emp <;> simp
          rcases hee with he | he
          · have ET2 := Lib.hid (show tellR q z = (cutR q.cnt (turnR q.back (buckA q.kd q.sz q.al P)), 0) from by
              rw [ET.out, show madeR q P = (buckA q.kd q.sz q.al P, 0) from by unfold madeR; rw [if_neg HKD.out, he]; rfl, if_pos rfl])
            rw [he] at c7
            generalize buckA q.kd q.sz q.al P = R at *
            clear he ET
            have hbb : q.back = false ∨ q.back = true := by cases q.back <;> simp
            rcases hbb with hb | hb
            · have ET3 := Lib.hid (show tellR q z = (cutR q.cnt R, 0) from by rw [ET2.out, hb]; rfl)
              rw [hb] at c2
              clear hb ET2
              have hcn := HC.out
              by_cases hc0 : q.cnt = 0
              · have tc : ¬ 0 < q.cnt := by omega
                have E2 := Lib.hid (show tellR q z = (R, 0) from by rw [ET3.out]; unfold cutR; rw [if_pos hc0])
                clear hc0 ET3 hcn
                go_wp2
                go_ret2
                exact ⟨_, _, _, (by rw [E2.out]; rfl), (by rw [E2.out]; exact HSB.out), by rw [HQB.out]; exact B2.trans (B4.mono (by omega))⟩
              · have tc : 0 < q.cnt := by omega
                obtain ⟨k, hk⟩ : ∃ k : Nat, q.cnt = (k : Int) := ⟨q.cnt.toNat, by omega⟩
                have E2 := Lib.hid (show tellR q z = (R.take k, 0) from by rw [ET3.out]; unfold cutR; rw [if_neg hc0, hk]; rfl)
                by_cases hle : k < R.length
                · obtain ⟨a1, hs1, L1⟩ := samp_to HSB.out k (by omega)
                  have HL1 := Lib.hid L1
                  have hle' : q.cnt < (R.length : Int) := by omega
                  rw [← hk] at hs1
                  clear hc0 ET3 hcn L1 hk hle
                  go_wp2
                  go_ret2
                  exact ⟨_, _, _, (by rw [E2.out]; rfl), (by rw [E2.out]; exact HL1.out), by rw [HQB.out]; exact B2.trans (B4.mono (by omega))⟩
                · have HL1 := Lib.hid (show SampAt W4 ad2 R.length cp2 (R.take k) from by rw [List.take_of_length_le (by omega)]; exact HSB.out)
                  have hle' : ¬ q.cnt < (R.length : Int) := by omega
                  clear hc0 ET3 hcn hk hle
                  go_wp2
                  go_ret2
                  exact ⟨_, _, _, (by rw [E2.out]; rfl), (by rw [E2.out]; exact HL1.out), by rw [HQB.out]; exact B2.trans (B4.mono (by omega))⟩
            · have ET3 := Lib.hid (show tellR q z = (cutR q.cnt R.reverse, 0) from by rw [ET2.out, hb]; rfl)
              have HR64 := Lib.hid (show All64 R.reverse from fun u hu => HB64.out u (List.mem_reverse.1 hu))
              have HRL := Lib.hid (show R.reverse.length ≤ 10000 from by rw [List.length_reverse]; exact HBL.out)
              rw [hb] at c2
              clear hb ET2
              go_wp2_with fail
              refine (turned7_any ad2 _ cp2 _ _ HSB.out (by have := HBL.out; omega)).mono ?_
              rintro e W9 ⟨v9, rfl, o9, b9⟩
              obtain ⟨ad9, cp9, rfl, hS9⟩ := row_samp HR64.out (by have := HRL.out; omega) o9
              have HS9 := Lib.hid hS9
              have B9 := B4.trans (b9.mono B4.size)
              clear c0 c1 c2 c3 c4 c5 c6 c7 c8 c9 c10 c11 o9 b9 hS9
              obtain ⟨c0, c1, c2, c3, c4, c5, c6, c7, c8, c9, c10, c11⟩ := HKQ.out _ B9
              generalize R.reverse = R9 at *
              have hcn := HC.out
              by_cases hc0 : q.cnt = 0
              · have tc : ¬ 0 < q.cnt := by omega
                have E2 := Lib.hid (show tellR q z = (R9, 0) from by rw [ET3.out]; unfold cutR; rw [if_pos hc0])
                clear hc0 ET3 hcn
                go_wp2
                go_ret2
                exact ⟨_, _, _, (by rw [E2.out]; rfl), (by rw [E2.out]; exact HS9.out), by rw [HQB.out]; exact B2.trans (B9.mono (by omega))⟩
              · have tc : 0 < q.cnt := by omega
                obtain ⟨k, hk⟩ : ∃ k : Nat, q.cnt = (k : Int) := ⟨q.cnt.toNat, by omega⟩
                have E2 := Lib.hid (show tellR q z = (R9.take k, 0) from by rw [ET3.out]; unfold cutR; rw [if_neg hc0, hk]; rfl)
                by_cases hle : k < R9.length
                · obtain ⟨a1, hs1, L1⟩ := samp_to HS9.out k (by omega)
                  have HL1 := Lib.hid L1
                  have hle' : q.cnt < (R9.length : Int) := by omega
                  rw [← hk] at hs1
                  clear hc0 ET3 hcn L1 hk hle
                  go_wp2
                  go_ret2
                  exact ⟨_, _, _, (by rw [E2.out]; rfl), (by rw [E2.out]; exact HL1.out), by rw [HQB.out]; exact B2.trans (B9.mono (by omega))⟩
                · have HL1 := Lib.hid (show SampAt W9 ad9 R9.length cp9 (R9.take k) from by rw [List.take_of_length_le (by omega)]; exact HS9.out)
                  have hle' : ¬ q.cnt < (R9.length : Int) := by omega
                  clear hc0 ET3 hcn hk hle
                  go_wp2
                  go_ret2
                  exact ⟨_, _, _, (by rw [E2.out]; rfl), (by rw [E2.out]; exact HL1.out), by rw [HQB.out]; exact B2.trans (B9.mono (by omega))⟩
          · have ET2 := Lib.hid (show tellR q z = if (fillR q.kd q.sz q.al (buckA q.kd q.sz q.al P)).2 = 0 then (cutR q.cnt (turnR q.back (fillR q.kd q.sz q.al (buckA q.kd q.sz q.al P)).1), 0) else ([], (fillR q.kd q.sz q.al (buckA q.kd q.sz q.al P)).2) from by
              rw [ET.out, show madeR q P = fillR q.kd q.sz q.al (buckA q.kd q.sz q.al P) from by unfold madeR; rw [if_neg HKD.out, he]; rfl])
            rw [he] at c7
            have HF64 := Lib.hid (fillR64 (k := q.kd) (size := q.sz) (align := q.al) HB64.out)
            have HFL := Lib.hid (fillR_len q.kd q.sz q.al (buckA q.kd q.sz q.al P))
            clear he ET
            go_wp2_with fail
            refine (rfill_any q.kd q.sz q.al ad2 _ cp2 _ W4 HSB.out HBL.out).mono ?_
            rintro e W5 ⟨ad3, n3, cp3, rfl, hS3, b5⟩
            have B5 := B4.trans (b5.mono B4.size)
            have HSF := Lib.hid hS3
            generalize fillR q.kd q.sz q.al (buckA q.kd q.sz q.al P) = M at *
            obtain ⟨F, er⟩ := M
            simp only at HF64 HFL ET2 HSF
            clear c0 c1 c2 c3 c4 c5 c6 c7 c8 c9 c10 c11 b5 hS3 B4
            obtain ⟨c0, c1, c2, c3, c4, c5, c6, c7, c8, c9, c10, c11⟩ := HKQ.out _ B5
            have hn3 := HSF.out.1
            by_cases her : er = 0
            · subst her
              rw [if_pos rfl] at ET2
              subst hn3
              have hbb : q.back = false ∨ q.back = true := by cases q.back <;> simp
              rcases hbb with hb | hb
              · have ET3 := Lib.hid (show tellR q z = (cutR q.cnt F, 0) from by rw [ET2.out, hb]; rfl)
                rw [hb] at c2
                clear hb ET2
                have hcn := HC.out
                by_cases hc0 : q.cnt = 0
                · have tc : ¬ 0 < q.cnt := by omega
                  have E2 := Lib.hid (show tellR q z = (F, 0) from by rw [ET3.out]; unfold cutR; rw [if_pos hc0])
                  clear hc0 ET3 hcn
                  go_wp2
                  go_ret2
                  exact ⟨_, _, _, (by rw [E2.out]; rfl), (by rw [E2.out]; exact HSF.out), by rw [HQB.out]; exact B2.trans (B5.mono (by omega))⟩
                · have tc : 0 < q.cnt := by omega
                  obtain ⟨k, hk⟩ : ∃ k : Nat, q.cnt = (k : Int) := ⟨q.cnt.toNat, by omega⟩
                  have E2 := Lib.hid (show tellR q z = (F.take k, 0) from by rw [ET3.out]; unfold cutR; rw [if_neg hc0, hk]; rfl)
                  by_cases hle : k < F.length
                  · obtain ⟨a1, hs1, L1⟩ := samp_to HSF.out k (by omega)
                    have HL1 := Lib.hid L1
                    have hle' : q.cnt < (F.length : Int) := by omega
                    rw [← hk] at hs1
                    clear hc0 ET3 hcn L1 hk hle
                    go_wp2
                    go_ret2
                    exact ⟨_, _, _, (by rw [E2.out]; rfl), (by rw [E2.out]; exact HL1.out), by rw [HQB.out]; exact B2.trans (B5.mono (by omega))⟩
                  · have HL1 := Lib.hid (show SampAt W5 ad3 F.length cp3 (F.take k) from by rw [List.take_of_length_le (by omega)]; exact HSF.out)
                    have hle' : ¬ q.cnt < (F.length : Int) := by omega
                    clear hc0 ET3 hcn hk hle
                    go_wp2
                    go_ret2
                    exact ⟨_, _, _, (by rw [E2.out]; rfl), (by rw [E2.out]; exact HL1.out), by rw [HQB.out]; exact B2.trans (B5.mono (by omega))⟩
              · have ET3 := Lib.hid (show tellR q z = (cutR q.cnt F.reverse, 0) from by rw [ET2.out, hb]; rfl)
                have HR64 := Lib.hid (show All64 F.reverse from fun u hu => HF64.out u (List.mem_reverse.1 hu))
                have HRL := Lib.hid (show F.reverse.length ≤ 10000 from by rw [List.length_reverse]; exact HFL.out)
                rw [hb] at c2
                clear hb ET2
                go_wp2_with fail
                refine (turned7_any ad3 _ cp3 _ _ HSF.out (by have := HFL.out; omega)).mono ?_
                rintro e W9 ⟨v9, rfl, o9, b9⟩
                obtain ⟨ad9, cp9, rfl, hS9⟩ := row_samp HR64.out (by have := HRL.out; omega) o9
                have HS9 := Lib.hid hS9
                have B9 := B5.trans (b9.mono B5.size)
                clear c0 c1 c2 c3 c4 c5 c6 c7 c8 c9 c10 c11 o9 b9 hS9
                obtain ⟨c0, c1, c2, c3, c4, c5, c6, c7, c8, c9, c10, c11⟩ := HKQ.out _ B9
                generalize F.reverse = R9 at *
                have hcn := HC.out
                by_cases hc0 : q.cnt = 0
                · have tc : ¬ 0 < q.cnt := by omega
                  have E2 := Lib.hid (show tellR q z = (R9, 0) from by rw [ET3.out]; unfold cutR; rw [if_pos hc0])
                  clear hc0 ET3 hcn
                  go_wp2
                  go_ret2
                  exact ⟨_, _, _, (by rw [E2.out]; rfl), (by rw [E2.out]; exact HS9.out), by rw [HQB.out]; exact B2.trans (B9.mono (by omega))⟩
                · have tc : 0 < q.cnt := by omega
                  obtain ⟨k, hk⟩ : ∃ k : Nat, q.cnt = (k : Int) := ⟨q.cnt.toNat, by omega⟩
                  have E2 := Lib.hid (show tellR q z = (R9.take k, 0) from by rw [ET3.out]; unfold cutR; rw [if_neg hc0, hk]; rfl)
                  by_cases hle : k < R9.length
                  · obtain ⟨a1, hs1, L1⟩ := samp_to HS9.out k (by omega)
                    have HL1 := Lib.hid L1
                    have hle' : q.cnt < (R9.length : Int) := by omega
                    rw [← hk] at hs1
                    clear hc0 ET3 hcn L1 hk hle
                    go_wp2
                    go_ret2
                    exact ⟨_, _, _, (by rw [E2.out]; rfl), (by rw [E2.out]; exact HL1.out), by rw [HQB.out]; exact B2.trans (B9.mono (by omega))⟩
                  · have HL1 := Lib.hid (show SampAt W9 ad9 R9.length cp9 (R9.take k) from by rw [List.take_of_length_le (by omega)]; exact HS9.out)
                    have hle' : ¬ q.cnt < (R9.length : Int) := by omega
                    clear hc0 ET3 hcn hk hle
                    go_wp2
                    go_ret2
                    exact ⟨_, _, _, (by rw [E2.out]; rfl), (by rw [E2.out]; exact HL1.out), by rw [HQB.out]; exact B2.trans (B9.mono (by omega))⟩
            · have E := Lib.hid (show tellR q z = ([], er) from by rw [ET2.out, if_neg her])
              have te : (er != 0) = true := by rw [bne_iff_ne]; exact her
              clear her ET2
              go_wp2
              go_ret2
              exact ⟨none, 0, 0, (by rw [E.out]; rfl), (by rw [E.out]; exact SampAt.nil _), by rw [HQB.out]; exact B2.trans (B5.mono (by omega))⟩
  · have E := Lib.hid (show tellR q z = ([], 1) from if_neg hr)
    have HE := Lib.hid (show errR q = 1 from if_neg hr)
    clear hr
    go_enter Try.func11, Try.ntmps11
    go_wp2_with fail
    refine (rright_x q a n c _ HN.out.1 HN.out.2).mono ?_
    rintro e W2 ⟨rfl, b2⟩
    rw [HE.out]
    have B2 := B0.trans (b2.mono (by omega))
    go_wp2
    go_ret2
    exact ⟨none, 0, 0, (by rw [E.out]; rfl), (by rw [E.out]; exact SampAt.nil _), B2⟩

end Go.Proofs.Ytpahohnpcfgegaa
