/-
  Contracts.
-/
import Derived.Test.YtmifpfojhlmbkaaGreatJ39
import Derived.Test.YtmifpfojhlmbkaaGreatJ41
namespace Go.Proofs.YtmifpfojhlmbkaaGreat
open Lib (hid)
set_option maxRecDepth 100000
set_option maxHeartbeats 16000000
open Go.RowKit
set_option linter.unusedVariables false
set_option linter.unusedSimpArgs false
theorem last64 {s : Ser} (h : Std s) : in64 (lastV s) ∧ 0 ≤ lastT s := by
  unfold lastV lastT
  by_cases e : s.z.length = 0
  · have : s.z = [] := List.eq_nil_of_length_eq_zero e
    rw [this]
    exact ⟨by unfold in64 vOf; simp, by unfold tOf; simp⟩
  · have hm := at_mem (z := s.z) (i := s.z.length - 1) (by omega)
    exact ⟨(h.all _ hm).2, (h.pos _ hm)⟩
def RaiP (r : Int × Int) (w : World) (e : Ending) (w' : World) : Prop := e = .returned (.tuple #[.int .i64 r.1, .int .i64 r.2]) ∧ Below w.heap.size w w'
theorem raised_any (b : Nat) (sz : Int) (s : Ser) (t y : Int) (w : World) (h : SerAt w b sz s) (hS : Std s) (hs : 128 ≤ sz) (hn : s.z.length ≤ 90000) (hy : in64 y) :
    Calls Tryz.prog 75 #[.pointer (some ⟨b, 0, none⟩), .int .i64 t, .int .i64 y] w (RaiP (raiE s t y) w) := by
  have hl := last64 hS
  have HE := hid (last_ser b sz s w h hs (by omega))
  have HR : Hid (raiE s t y = if t < 0 ∨ 1099511627776 ≤ t then (0, 1) else if t < lastT s then (0, 7) else addS (lastV s) y) := hid rfl
  have HAD := hid (fun W => add_any (lastV s) y W hl.1 hy)
  replace HE : Hid (Calls Tryz.prog 49 #[.pointer (some ⟨b, 0, none⟩)] w fun e w' => e = .returned (.tuple #[.agg #[.int .i64 (lastT s), .int .i64 (lastV s)], .bool (decide (0 < s.z.length))]) ∧ Below w.heap.size w w') := HE
  rw [HR.out]
  clear h hS hl HR
  generalize lastT s = T at *
  generalize lastV s = V at *
  generalize decide (0 < s.z.length) = some_ at *
  obtain ⟨a1, a2, ha⟩ : ∃ a1 a2, Hid (addS V y = (a1, a2)) := ⟨_, _, hid rfl⟩
  rw [ha.out] at HAD
  unfold two at HAD
  rw [ha.out]
  by_cases h0 : t < 0
  · rw [if_pos (.inl h0)]
    go_enter Tryz.func75, Tryz.ntmps75
    go_wp2_with fail
    refine HE.out.mono ?_
    rintro e w1 ⟨rfl, b1⟩
    have HB := hid (b1.alloc b1.size (.cells #[.int .i64 T, .int .i64 V] 27))
    clear b1
    go_wp2
    go_ret2
    exact ⟨rfl, HB.out⟩
  · by_cases h1 : 1099511627776 ≤ t
    · rw [if_pos (.inr h1)]
      go_enter Tryz.func75, Tryz.ntmps75
      go_wp2_with fail
      refine HE.out.mono ?_
      rintro e w1 ⟨rfl, b1⟩
      have HB := hid (b1.alloc b1.size (.cells #[.int .i64 T, .int .i64 V] 27))
      clear b1
      go_wp2
      go_ret2
      exact ⟨rfl, HB.out⟩
    · rw [if_neg (by omega)]
      by_cases h2 : t < T
      · rw [if_pos h2]
        go_enter Tryz.func75, Tryz.ntmps75
        go_wp2_with fail
        refine HE.out.mono ?_
        rintro e w1 ⟨rfl, b1⟩
        have HB := hid (b1.alloc b1.size (.cells #[.int .i64 T, .int .i64 V] 27))
        clear b1
        go_wp2
        go_ret2
        exact ⟨rfl, HB.out⟩
      · rw [if_neg h2]
        go_enter Tryz.func75, Tryz.ntmps75
        go_wp2_with fail
        refine HE.out.mono ?_
        rintro e w1 ⟨rfl, b1⟩
        have HB := hid (b1.alloc b1.size (.cells #[.int .i64 T, .int .i64 V] 27))
        clear b1
        go_wp2_with fail
        refine (HAD.out _).mono ?_
        rintro e w' ⟨rfl, rfl⟩
        go_wp2
        go_ret2
        exact ⟨rfl, HB.out⟩
theorem hAdd (w : World) (x : Nat) (m : Mem) (P : Spc) (k : Tx) (T V p : Int) (h : SpAt w x m P) (hf : Few 9000 P) (hg : P.G.length ≤ 1000) (hV : in64 V) :
    Calls Tryz.prog 18 #[.pointer (some ⟨x, 0, none⟩), .string (bs k), .agg #[.int .i64 T, .int .i64 V], .int .i64 p] w (WriP x m P (aErr P k T V p) (aSp P k T V p) w) := by
  have B1 := (Below.refl w.heap.size w).alloc (Nat.le_refl _) (.cells #[.int .i64 T, .int .i64 V] 27)
  have H1 := hid (h.keep B1)
  have HB1 := hid B1
  have hx0 : (w.alloc (.cells #[.int .i64 T, .int .i64 V] 27)).heap[w.heap.size]? = some (.cells #[.int .i64 T, .int .i64 V] 27 (0, 0)) := heap_new w _
  have HX := hid hx0
  have HW := hid (hWr _ x m P k (h.keep B1))
  unfold WrP at HW
  by_cases he : wErr P k = 0
  · have hk : P.has k := Classical.byContradiction fun q => by unfold wErr at he; rw [if_pos q] at he; omega
    have E1 : aErr P k T V p = addE (P.S k) T V p := by unfold aErr; rw [if_neg (by simp [he])]
    have E2 : aSp P k T V p = if addE (P.S k) T V p = 0 then wrote P k T V p else P := by unfold aSp; rw [E1]
    rw [E1, E2]
    rw [he] at HW
    have HK := hid hk
    clear h B1 he E1 E2 hx0
    have HWW := hid (fun W (q : SpAt W x m P) => hWrite W x m P k T V p q HK.out hf hg hV)
    clear hk
    generalize addE (P.S k) T V p = er at *
    generalize (if er = 0 then wrote P k T V p else P) = P' at *
    go_enter Tryz.func18, Tryz.ntmps18
    go_wp2_with fail
    generalize hBB : w.heap.size = B0 at *
    generalize hW1 : w.alloc (.cells #[.int .i64 T, .int .i64 V] 27) = W1 at *
    have HBB := hid hBB
    clear hW1 hBB
    refine HW.out.mono ?_
    rintro e w2 ⟨rfl, b2⟩
    have hX2 := (b2.block B0 (heap_lt HX.out)).trans HX.out
    have x0 : w2.cell? ⟨B0, 0, none⟩ = some (.int .i64 T) := by rw [cell_of hX2]; rfl
    have x1 : w2.cell? ⟨B0, 1, none⟩ = some (.int .i64 V) := by rw [cell_of hX2]; rfl
    have H2 := hid (H1.out.keep b2)
    have HB2 := hid (show Below w.heap.size w w2 from by rw [HBB.out]; exact HB1.out.trans (b2.mono (by rw [← HBB.out]; exact HB1.out.size)))
    clear b2 hX2
    go_wp2_with fail
    refine (HWW.out _ H2.out).mono ?_
    rintro e w3 ⟨rfl, t3⟩
    have T3 := hid (t3.pre HB2.out)
    clear t3 x0 x1
    go_wp2
    go_ret
    exact ⟨rfl, T3.out⟩
  · have E1 : aErr P k T V p = wErr P k := by unfold aErr; rw [if_pos he]
    have E2 : aSp P k T V p = P := by unfold aSp; rw [E1, if_neg he]
    rw [E1, E2]
    rw [if_neg he] at HW
    have hez : (wErr P k == 0) = false := by simpa using he
    have H := hid h
    clear h B1 he E1 E2 hx0 H1
    generalize wErr P k = er at *
    go_enter Tryz.func18, Tryz.ntmps18
    go_wp2_with fail
    refine HW.out.mono ?_
    rintro e w2 ⟨rfl, b2⟩
    have T2 := hid (SpTurn.below H.out (HB1.out.trans (b2.mono HB1.out.size)))
    clear b2
    go_wp2
    go_ret
    exact ⟨rfl, T2.out⟩
def IncP (x : Nat) (m : Mem) (P : Spc) (v er : Int) (P' : Spc) (w : World) (e : Ending) (w' : World) : Prop := e = .returned (.tuple #[.int .i64 v, .int .i64 er]) ∧ SpTurn w w' x m m P.E P'
theorem hInc (w : World) (x : Nat) (m : Mem) (P : Spc) (k : Tx) (t y : Int) (h : SpAt w x m P) (hf : Few 9000 P) (hg : P.G.length ≤ 1000) (hy : in64 y) :
    Calls Tryz.prog 29 #[.pointer (some ⟨x, 0, none⟩), .string (bs k), .int .i64 t, .int .i64 y] w (IncP x m P (iVal P k t y) (iErr P k t y) (iSp P k t y) w) := by
  have H := hid h
  have HW := hid (hWr _ x m P k h)
  unfold WrP at HW
  by_cases he : wErr P k = 0
  · have hk : P.has k := Classical.byContradiction fun q => by unfold wErr at he; rw [if_pos q] at he; omega
    have hS := h.ok.std k hk
    have hz := h.ok.siz k hk
    have hzl := hf.z k hk
    have HR := hid (fun W (q : SpAt W x m P) => raised_any (m.B k) (P.Z k) (P.S k) t y W (q.ser k hk) hS hz.1 (by omega) hy)
    unfold RaiP at HR
    have HK := hid hk
    have HWW := hid (fun W v (hv : in64 v) (q : SpAt W x m P) => hWrite W x m P k t v 3 q HK.out hf hg hv)
    have E1 : iErr P k t y = if (raiE (P.S k) t y).2 ≠ 0 then (raiE (P.S k) t y).2 else addE (P.S k) t (raiE (P.S k) t y).1 3 := by unfold iErr; rw [if_neg (by simp [he])]
    have hv64 : in64 (raiE (P.S k) t y).1 := by
      unfold raiE
      have := addS_in (lastV (P.S k)) y
      (repeat' split) <;> first | assumption | (unfold in64; simp)
    unfold iVal iSp
    rw [E1]
    rw [he] at HW
    clear h he E1 hk hS hz hzl
    generalize (raiE (P.S k) t y).1 = v at *
    generalize (raiE (P.S k) t y).2 = e1 at *
    by_cases h1 : e1 = 0
    · subst h1
      have HV := hid hv64
      simp only [ne_eq, not_true_eq_false, if_false]
      by_cases h2 : addE (P.S k) t v 3 = 0
      · replace HWW := hid (HWW.out · v HV.out)
        rw [h2, if_pos rfl] at HWW
        rw [h2, if_pos rfl, if_pos rfl]
        clear h2 hv64
        generalize wrote P k t v 3 = P' at *
        go_enter Tryz.func29, Tryz.ntmps29
        go_wp2_with fail
        refine HW.out.mono ?_
        rintro e w1 ⟨rfl, b1⟩
        have H1 := hid (H.out.keep b1)
        have B1 := hid b1
        clear b1
        go_wp2_with fail
        refine (HR.out _ H1.out).mono ?_
        rintro e w2 ⟨rfl, b2⟩
        have H2 := hid (H1.out.keep b2)
        have B2 := hid (B1.out.trans (b2.mono B1.out.size))
        clear b2
        go_wp2_with fail
        refine (HWW.out _ H2.out).mono ?_
        rintro e w3 ⟨rfl, t3⟩
        have T3 := hid (t3.pre B2.out)
        clear t3
        go_wp2
        go_ret2
        exact ⟨rfl, T3.out⟩
      · replace HWW := hid (HWW.out · v HV.out)
        rw [if_neg h2] at HWW
        rw [if_neg h2, if_neg h2]
        have hez : (addE (P.S k) t v 3 == 0) = false := by simpa using h2
        clear h2 hv64
        generalize addE (P.S k) t v 3 = er at *
        go_enter Tryz.func29, Tryz.ntmps29
        go_wp2_with fail
        refine HW.out.mono ?_
        rintro e w1 ⟨rfl, b1⟩
        have H1 := hid (H.out.keep b1)
        have B1 := hid b1
        clear b1
        go_wp2_with fail
        refine (HR.out _ H1.out).mono ?_
        rintro e w2 ⟨rfl, b2⟩
        have H2 := hid (H1.out.keep b2)
        have B2 := hid (B1.out.trans (b2.mono B1.out.size))
        clear b2
        go_wp2_with fail
        refine (HWW.out _ H2.out).mono ?_
        rintro e w3 ⟨rfl, t3⟩
        have T3 := hid (t3.pre B2.out)
        clear t3
        go_wp2
        go_ret2
        exact ⟨rfl, T3.out⟩
    · rw [if_pos h1, if_neg h1, if_neg h1]
      have hez : (e1 == 0) = false := by simpa using h1
      clear h1 hv64 HWW
      go_enter Tryz.func29, Tryz.ntmps29
      go_wp2_with fail
      refine HW.out.mono ?_
      rintro e w1 ⟨rfl, b1⟩
      have H1 := hid (H.out.keep b1)
      have B1 := hid b1
      clear b1
      go_wp2_with fail
      refine (HR.out _ H1.out).mono ?_
      rintro e w2 ⟨rfl, b2⟩
      have T2 := hid (SpTurn.below H.out (B1.out.trans (b2.mono B1.out.size)))
      clear b2
      go_wp2
      go_ret2
      exact ⟨rfl, T2.out⟩
  · have E1 : iErr P k t y = wErr P k := by unfold iErr; rw [if_pos he]
    unfold iVal iSp
    rw [E1, if_neg he, if_neg he]
    rw [if_neg he] at HW
    have hez : (wErr P k == 0) = false := by simpa using he
    clear h he E1
    generalize wErr P k = er at *
    go_enter Tryz.func29, Tryz.ntmps29
    go_wp2_with fail
    refine HW.out.mono ?_
    rintro e w2 ⟨rfl, b2⟩
    have T2 := hid (SpTurn.below H.out b2)
    clear b2
    go_wp2
    go_ret2
    exact ⟨rfl, T2.out⟩
theorem times_in {s : Ser} (h : Std s) (a b : Int) : (∀ t ∈ timesL (s.z.filter (inB a b)), 0 ≤ t ∧ t < 1099511627776) ∧ (timesL (s.z.filter (inB a b))).Pairwise (· ≤ ·) ∧ (timesL (s.z.filter (inB a b))).length ≤ s.z.length := by
  refine ⟨fun t ht => ?_, ?_, ?_⟩
  · obtain ⟨u, hu, rfl⟩ := List.mem_map.1 ht
    exact h.time u (List.mem_filter.1 hu).1
  · unfold timesL
    rw [List.pairwise_map]
    exact (List.Pairwise.filter _ ((rising_pw _).1 h.rise)).imp (fun h => by omega)
  · unfold timesL; rw [List.length_map]; exact List.length_filter_le ..
theorem hDel (w : World) (x : Nat) (m : Mem) (P : Spc) (k : Tx) (a b : Int) (h : SpAt w x m P) (hf : Few 9000 P) (hg : P.G.length ≤ 1000) :
    Calls Tryz.prog 30 #[.pointer (some ⟨x, 0, none⟩), .string (bs k), .int .i64 a, .int .i64 b] w (IncP x m P (dNum P k a b) (wErr P k) (dSp P k a b) w) := by
  have H := hid h
  have HW := hid (hWr _ x m P k h)
  unfold WrP at HW
  unfold dNum dSp
  by_cases he : wErr P k = 0
  · have hk : P.has k := Classical.byContradiction fun q => by unfold wErr at he; rw [if_pos q] at he; omega
    have hS := h.ok.std k hk
    have hz := h.ok.siz k hk
    have hzl := hf.z k hk
    obtain ⟨t1, t2, t3⟩ := times_in hS a b
    have HT1 := hid t1
    have HT2 := hid t2
    have HT3 := hid t3
    have HRG := hid (fun W (q : SpAt W x m P) => range_ser (m.B k) (P.Z k) (P.S k) a b W (q.ser k hk) hz.1 hS.rise (by omega))
    have HTM := hid (fun W ad cp (q : Lst W ad ((P.S k).z.filter (inB a b)).length cp ((P.S k).z.filter (inB a b))) => times_any ad _ cp _ W q (by have := List.length_filter_le (inB a b) (P.S k).z; omega))
    have HDL := hid (fun W (q : SpAt W x m P) => del_any (m.B k) (P.Z k) (P.S k) a b W (q.ser k hk) hz.1 hz.2 hS.rise (by omega))
    have HK := hid hk
    have HSD := hid (hS.del a b)
    have HSL := hid (show (delS (P.S k) a b).z.length ≤ 9000 from Nat.le_trans (del_len _ _ _) hzl)
    have HF := hid hf
    have HT64 := hid (show ∀ t ∈ timesL ((P.S k).z.filter (inB a b)), in64 t from fun t ht => by have := t1 t ht; unfold in64; omega)
    rw [he] at HW
    rw [if_neg (by simp [he]), if_neg (by simp [he]), he]
    clear h he hk hS hz t1 t2 t3 hf
    generalize (P.S k).z.filter (inB a b) = gz at *
    generalize timesL gz = tl at *
    generalize dropN (P.S k).z a b = nn at *
    generalize delS (P.S k) a b = s' at *
    go_enter Tryz.func30, Tryz.ntmps30
    go_wp2_with fail
    refine HW.out.mono ?_
    rintro e w1 ⟨rfl, b1⟩
    have H1 := hid (H.out.keep b1)
    have B1 := hid b1
    clear b1
    go_wp2_with fail
    refine (HRG.out _ H1.out).mono ?_
    rintro e w2 ⟨ra, rc, rfl, l2, b2⟩
    have L2 := hid l2
    have H2 := hid (H1.out.keep b2)
    have B2 := hid (B1.out.trans (b2.mono B1.out.size))
    clear l2 b2
    go_wp2_with fail
    refine (HTM.out _ _ _ L2.out).mono ?_
    rintro e w3 ⟨v3, rfl, r3, b3⟩
    obtain ⟨ta, tc, rfl, nT⟩ := Nums.of r3 HT64.out
    have IT := hid nT
    have H3 := hid (H2.out.keep b3)
    have B3 := hid (B2.out.trans (b3.mono B2.out.size))
    clear r3 b3 nT HTM L2
    go_wp2_with fail
    refine (HDL.out _ H3.out).mono ?_
    rintro e w4 ⟨rfl, s4, g4⟩
    have T4 := hid (H3.out.serTurn HK.out g4 s4 HSD.out)
    have A4 := hid T4.out.sp
    replace A4 : Hid (SpAt w4 x m { P with S := upd P.S k s' }) := A4
    have IT4 := hid (IT.out.ts T4.out.ts)
    have c2 := A4.out.cell.c2
    have HRS := hid ((rset_of A4.out.ok k))
    replace HRS : Hid (Rset { P with S := upd P.S k s' } (ofL P.G k)) := HRS
    have HOL := hid (show (ofL P.G k).length ≤ 1000 from Nat.le_trans (ofL_le _ _) hg)
    have HOF := hid (gof_ok w4 m.gx m.bi m.bf m.F (ofL P.G) k A4.out.gr.cell A4.out.gr.from_ HOL.out)
    have HZ2 := hid (show ∀ j, ({ P with S := upd P.S k s' } : Spc).has j → (({ P with S := upd P.S k s' } : Spc).S j).z.length ≤ 10000 from fun j hj => by
      by_cases e : j = k
      · subst e
        show (upd P.S j s' j).z.length ≤ 10000
        rw [upd_k]; have := HSL.out; omega
      · show (upd P.S k s' j).z.length ≤ 10000
        rw [upd_n _ _ e]; have := HF.out.z j hj; omega)
    generalize ofL P.G k = rs at *
    clear s4 g4 H1 H2 H3 IT HSD
    go_wp2_with fail
    refine HOF.out.mono ?_
    rintro e w5 ⟨vO, rfl, rO, bO⟩
    obtain ⟨ao, co, rfl, ruO, owO⟩ := rO.shape
    have hRO := hid (show ∀ ad, ao = some ad → ¬ Own m P.E ad.block from fun ad e f => by
      have h1 := rO.base (owO ad e)
      have h2 := A4.out.lt (i := ad.block) f
      omega)
    have RO := hid ruO
    have A5 := hid (A4.out.keep bO)
    have IT5 := hid (IT4.out.keep bO)
    have T5 := hid (T4.out.thenB bO)
    clear rO ruO owO bO c2 T4 IT4 A4
    go_wp2_with fail
    refine (remake_any _ x m { P with S := upd P.S k s' } _ _ _ rs _ _ _ tl A5.out RO.out hRO.out HRS.out HZ2.out IT5.out (by have := HT3.out; omega) HT1.out HT2.out (by have := HOL.out; omega)).mono ?_
    rintro e w6 ⟨rfl, t6⟩
    have T6 := hid ((T5.out.trans t6).pre B3.out)
    clear t6
    go_wp2
    go_ret2
    exact ⟨rfl, T6.out⟩
  · rw [if_pos he, if_pos he]
    rw [if_neg he] at HW
    have hez : (wErr P k == 0) = false := by simpa using he
    clear h he
    generalize wErr P k = er at *
    go_enter Tryz.func30, Tryz.ntmps30
    go_wp2_with fail
    refine HW.out.mono ?_
    rintro e w2 ⟨rfl, b2⟩
    have T2 := hid (SpTurn.below H.out b2)
    clear b2
    go_wp2
    go_ret2
    exact ⟨rfl, T2.out⟩
theorem gadd_x (w : World) (x bi bf : Nat) (F : Nat → Prop) (L : List Ru) (r : Ru) (h : GrAt w x bi bf F L) (hL : L.length ≤ 900) :
    Calls Tryz.prog 93 #[.pointer (some ⟨x, 0, none⟩), .agg #[.string (bs r.src), .string (bs r.dst), .int .i64 r.kind, .int .i64 r.size, .int .i64 r.align]] w fun e w' => e = .returned (.int .i64 (addEG L r)) ∧ ∃ F', GrTurn w w' x bi bf F F' (addU L r) := gadd_ok w x bi bf F L r h hL
theorem gright_y (r : Ru) (w : World) : Calls Tryz.prog 91 #[.agg #[.string (bs r.src), .string (bs r.dst), .int .i64 r.kind, .int .i64 r.size, .int .i64 r.align]] w fun e w' => e = .returned (.bool (decide (rightU r))) ∧ Below w.heap.size w w' := gright_any r w
theorem kErr_src {P : Spc} {r : Ru} (h : kErr P r = 0) : rightU r ∧ P.has r.src ∧ P.has r.dst ∧ addEG P.G r = 0 := by
  unfold kErr at h
  by_cases h1 : rightU r
  · rw [if_neg (by simpa using h1)] at h
    by_cases h2 : ¬ P.has r.src ∨ ¬ P.has r.dst
    · rw [if_pos h2] at h; omega
    · rw [if_neg h2] at h
      exact ⟨h1, Classical.byContradiction fun q => h2 (.inl q), Classical.byContradiction fun q => h2 (.inr q), h⟩
  · rw [if_pos h1] at h; omega
theorem hRelink (w : World) (x : Nat) (m : Mem) (P : Spc) (r : Ru) (h : SpAt w x m P) (hg : P.G.length ≤ 900) :
    Calls Tryz.prog 38 #[.pointer (some ⟨x, 0, none⟩), .agg #[.string (bs r.src), .string (bs r.dst), .int .i64 r.kind, .int .i64 r.size, .int .i64 r.align]] w (CreP x m P.E (kErr P r) (keSp P r) w) := by
  have B1 := (Below.refl w.heap.size w).alloc (Nat.le_refl _) (.cells #[.string (bs r.src), .string (bs r.dst), .int .i64 r.kind, .int .i64 r.size, .int .i64 r.align] 32)
  have HX := hid (BoxU.new 32 w r)
  have H1 := hid (h.keep B1)
  have HB1 := hid B1
  have H0 := hid h
  have HR := hid (fun W => gright_y r W)
  have HH := hid (fun W k (q : SpAt W x m P) => hHas W x m P k q)
  clear B1
  by_cases h1 : rightU r
  · rw [decide_eq_true h1] at HR
    by_cases h2 : P.has r.src
    · have HH1 := hid (fun W (q : SpAt W x m P) => HH.out W r.src q)
      rw [decide_eq_true h2] at HH1
      by_cases h3 : P.has r.dst
      · have HH2 := hid (fun W (q : SpAt W x m P) => HH.out W r.dst q)
        rw [decide_eq_true h3] at HH2
        have e1 : kErr P r = addEG P.G r := by unfold kErr; rw [if_neg (by simpa using h1), if_neg (by simp [h2, h3])]
        have HA := hid (fun W (q : SpAt W x m P) => gadd_x W m.gx m.bi m.bf m.F P.G r q.gr hg)
        have HEN := hid (show ∀ q ∈ addU P.G r, P.has q.src ∧ P.has q.dst from fun q hq => by
          unfold addU at hq
          split at hq
          · rcases mem_insU.1 hq with e | e
            · rw [e]; exact ⟨h2, h3⟩
            · exact h.ok.ends q e
          · exact h.ok.ends q hq)
        have e2 : keSp P r = { P with G := addU P.G r } := by
          unfold keSp addU
          rw [e1]
          split <;> rfl
        rw [e1, e2]
        clear h h1 h2 h3 e1 e2 HH
        generalize addU P.G r = G' at *
        generalize addEG P.G r = er at *
        go_enter Tryz.func38, Tryz.ntmps38
        go_wp2_with fail
        generalize hBB : w.heap.size = B0 at *
        have HBB := hid hBB
        generalize w.alloc (.cells #[.string (bs r.src), .string (bs r.dst), .int .i64 r.kind, .int .i64 r.size, .int .i64 r.align] 32) = w1 at *
        clear hBB
        refine (hNone_no w1 x m H1.out.cell).mono ?_
        rintro e w' ⟨rfl, rfl⟩
        obtain ⟨x0, x1, x2, x3, x4⟩ := HX.out.five
        go_wp2_with fail
        refine (HR.out _).mono ?_
        rintro e w2 ⟨rfl, b2⟩
        have X2 := hid (HX.out.keep b2)
        have H2 := hid (H1.out.keep b2)
        have B2 := hid b2
        clear b2 x0 x1 x2 x3 x4
        have x0 := X2.out.x0
        go_wp2_with fail
        refine (HH1.out _ H2.out).mono ?_
        rintro e w3 ⟨rfl, b3⟩
        have X3 := hid (X2.out.keep b3)
        have H3 := hid (H2.out.keep b3)
        have B3 := hid (B2.out.trans (b3.mono B2.out.size))
        clear b3 x0
        have x1 := X3.out.x1
        go_wp2_with fail
        refine (HH2.out _ H3.out).mono ?_
        rintro e w4 ⟨rfl, b4⟩
        have X4 := hid (X3.out.keep b4)
        have H4 := hid (H3.out.keep b4)
        have B4 := hid (B3.out.trans (b4.mono B3.out.size))
        clear b4 x1
        go_wp2_with fail
        refine wp_region_still_tail 5 (by kernel_rfl) (by kernel_rfl) ?_
        simp only [List.take_succ_cons, List.take_zero, List.drop_succ_cons, List.drop_zero]
        change wpStill _ _ w4.drew (fun a' => wpList _ _ _ _ a' w4.drew) _ _
        have bd := (Below.refl w4.heap.size w4).drew
        have H5 := hid (H4.out.keep bd)
        obtain ⟨x0, x1, x2, x3, x4⟩ := (X4.out.keep bd).five
        have HB5 := hid (show Below w.heap.size w w4.drew from by rw [HBB.out]; exact HB1.out.trans ((B4.out.trans (bd.mono B4.out.size)).mono (Nat.le_of_lt HX.out.lt)))
        clear bd
        generalize w4.drew = W5 at *
        have c2 := H5.out.cell.c2
        repeat still_step
        refine wpStill_nil ?_
        go_wp2_with fail
        refine (HA.out _ H5.out).mono ?_
        rintro e w6 ⟨rfl, F', t6⟩
        have T6 := hid ((H5.out.grTurn t6 HEN.out).pre HB5.out)
        clear t6 c2 x0 x1 x2 x3 x4
        go_wp2
        go_ret
        exact ⟨rfl, _, T6.out⟩
      · have HH2 := hid (fun W (q : SpAt W x m P) => HH.out W r.dst q)
        rw [decide_eq_false h3] at HH2
        have e1 : kErr P r = 5 := by unfold kErr; rw [if_neg (by simpa using h1), if_pos (.inr h3)]
        have e2 : keSp P r = P := by unfold keSp; rw [if_neg (by omega)]
        rw [e1, e2]
        clear h h1 h2 h3 e1 e2 HH
        go_enter Tryz.func38, Tryz.ntmps38
        go_wp2_with fail
        generalize hBB : w.heap.size = B0 at *
        have HBB := hid hBB
        generalize w.alloc (.cells #[.string (bs r.src), .string (bs r.dst), .int .i64 r.kind, .int .i64 r.size, .int .i64 r.align] 32) = w1 at *
        clear hBB
        refine (hNone_no w1 x m H1.out.cell).mono ?_
        rintro e w' ⟨rfl, rfl⟩
        obtain ⟨x0, x1, x2, x3, x4⟩ := HX.out.five
        go_wp2_with fail
        refine (HR.out _).mono ?_
        rintro e w2 ⟨rfl, b2⟩
        have X2 := hid (HX.out.keep b2)
        have H2 := hid (H1.out.keep b2)
        have B2 := hid b2
        clear b2 x0 x1 x2 x3 x4
        have x0 := X2.out.x0
        go_wp2_with fail
        refine (HH1.out _ H2.out).mono ?_
        rintro e w3 ⟨rfl, b3⟩
        have X3 := hid (X2.out.keep b3)
        have H3 := hid (H2.out.keep b3)
        have B3 := hid (B2.out.trans (b3.mono B2.out.size))
        clear b3 x0
        have x1 := X3.out.x1
        go_wp2_with fail
        refine (HH2.out _ H3.out).mono ?_
        rintro e w4 ⟨rfl, b4⟩
        have T4 := hid (SpTurn.below H0.out (show Below w.heap.size w w4 from by rw [HBB.out]; exact HB1.out.trans ((B3.out.trans (b4.mono B3.out.size)).mono (Nat.le_of_lt HX.out.lt))))
        clear b4 x1
        go_wp2
        go_ret
        exact ⟨rfl, _, T4.out⟩
    · have HH1 := hid (fun W (q : SpAt W x m P) => HH.out W r.src q)
      rw [decide_eq_false h2] at HH1
      have e1 : kErr P r = 5 := by unfold kErr; rw [if_neg (by simpa using h1), if_pos (.inl h2)]
      have e2 : keSp P r = P := by unfold keSp; rw [if_neg (by omega)]
      rw [e1, e2]
      clear h h1 h2 e1 e2 HH
      go_enter Tryz.func38, Tryz.ntmps38
      go_wp2_with fail
      generalize hBB : w.heap.size = B0 at *
      have HBB := hid hBB
      generalize w.alloc (.cells #[.string (bs r.src), .string (bs r.dst), .int .i64 r.kind, .int .i64 r.size, .int .i64 r.align] 32) = w1 at *
      clear hBB
      refine (hNone_no w1 x m H1.out.cell).mono ?_
      rintro e w' ⟨rfl, rfl⟩
      obtain ⟨x0, x1, x2, x3, x4⟩ := HX.out.five
      go_wp2_with fail
      refine (HR.out _).mono ?_
      rintro e w2 ⟨rfl, b2⟩
      have X2 := hid (HX.out.keep b2)
      have H2 := hid (H1.out.keep b2)
      have B2 := hid b2
      clear b2 x0 x1 x2 x3 x4
      have x0 := X2.out.x0
      go_wp2_with fail
      refine (HH1.out _ H2.out).mono ?_
      rintro e w3 ⟨rfl, b3⟩
      have T3 := hid (SpTurn.below H0.out (show Below w.heap.size w w3 from by rw [HBB.out]; exact HB1.out.trans ((B2.out.trans (b3.mono B2.out.size)).mono (Nat.le_of_lt HX.out.lt))))
      clear b3 x0
      go_wp2
      go_ret
      exact ⟨rfl, _, T3.out⟩
  · rw [decide_eq_false h1] at HR
    have e1 : kErr P r = 1 := by unfold kErr; rw [if_pos h1]
    have e2 : keSp P r = P := by unfold keSp; rw [if_neg (by omega)]
    rw [e1, e2]
    clear h h1 e1 e2 HH
    go_enter Tryz.func38, Tryz.ntmps38
    go_wp2_with fail
    generalize hBB : w.heap.size = B0 at *
    have HBB := hid hBB
    generalize w.alloc (.cells #[.string (bs r.src), .string (bs r.dst), .int .i64 r.kind, .int .i64 r.size, .int .i64 r.align] 32) = w1 at *
    clear hBB
    refine (hNone_no w1 x m H1.out.cell).mono ?_
    rintro e w' ⟨rfl, rfl⟩
    obtain ⟨x0, x1, x2, x3, x4⟩ := HX.out.five
    go_wp2_with fail
    refine (HR.out _).mono ?_
    rintro e w2 ⟨rfl, b2⟩
    have T2 := hid (SpTurn.below H0.out (show Below w.heap.size w w2 from by rw [HBB.out]; exact HB1.out.trans (b2.mono (Nat.le_of_lt HX.out.lt))))
    clear b2 x0 x1 x2 x3 x4
    go_wp2
    go_ret
    exact ⟨rfl, _, T2.out⟩
end Go.Proofs.YtmifpfojhlmbkaaGreat
