/-
  Contracts.
-/
import Derived.Test.YtmifpfojhlmbkaaGreatJ0
import Derived.Test.YtmifpfojhlmbkaaGreatJ33
import Derived.StillTailTactics
import Derived.Deep.RegionHeld3
import Derived.Laws.IdiomRangeMap
namespace Go.Proofs.YtmifpfojhlmbkaaGreat
open Lib (hid)
set_option maxRecDepth 100000
set_option maxHeartbeats 16000000
open Go.RowKit
set_option linter.unusedVariables false
set_option linter.unusedSimpArgs false
theorem atU_is {l : List Ru} {d : Tx} {i : Nat} (hi : i ≤ l.length) (h1 : ∀ t, t < i → (uA l t).dst < d) (h2 : ∀ t, i ≤ t → t < l.length → ¬ (uA l t).dst < d) : atU l d = i := by
  have e : l = l.take i ++ l.drop i := (List.take_append_drop _ _).symm
  unfold atU
  rw [e, List.countP_append]
  have e1 : (l.take i).countP (fun x => decide (x.dst < d)) = i := by
    have hl : (l.take i).length = i := by rw [List.length_take]; omega
    conv => rhs; rw [← hl]
    rw [List.countP_eq_length]
    intro x hx
    obtain ⟨t, ht, rfl⟩ := List.getElem_of_mem hx
    have := h1 t (by omega)
    rw [uA_get (by omega)] at this
    rw [List.getElem_take]; simpa using this
  have e2 : (l.drop i).countP (fun x => decide (x.dst < d)) = 0 := by
    rw [List.countP_eq_zero]
    intro x hx
    obtain ⟨t, ht, rfl⟩ := List.getElem_of_mem hx
    rw [List.length_drop] at ht
    have := h2 (i + t) (by omega) (by omega)
    rw [uA_get (by omega)] at this
    rw [List.getElem_drop]; simpa using this
  rw [e1, e2, Nat.add_zero]
theorem cmp_lt {x y : Tx} : cmpL x y < 0 ↔ x < y := by
  unfold cmpL
  by_cases h1 : x < y
  · simp [h1]
  · by_cases h2 : y < x <;> simp [h1, h2]
theorem dst_lt {l : List Ru} (h : l.Pairwise (fun a b => a.dst < b.dst)) {i j : Nat} (hij : i < j) (hj : j < l.length) : (uA l i).dst < (uA l j).dst := by
  rw [uA_get (by omega), uA_get hj]
  exact List.pairwise_iff_getElem.1 h i j (by omega) hj hij
theorem byDst_x (s t : Tx) (k n a : Int) (d : Tx) (w : World) : Calls Tryz.prog 232 #[.agg #[.string (bs s), .string (bs t), .int .i64 k, .int .i64 n, .int .i64 a], .string (bs d)] w fun e w' => e = .returned (.int .i64 (cmpL t d)) ∧ Below w.heap.size w w' := byDst_any ⟨s, t, k, n, a⟩ d w
def SeaP (k : Nat) (w : World) (e : Ending) (w' : World) : Prop := ∃ b, e = .returned (.tuple #[.int .i64 (k : Int), .bool b]) ∧ Below w.heap.size w w'
theorem bsearch_any (a : Option Addr) (n c : Nat) (l : List Ru) (d : Tx) (w : World) (h : RuAt w a n c l) (hn : n ≤ 1000) (hs : l.Pairwise (fun a b => a.dst < b.dst)) :
    Calls Tryz.prog 231 #[.slice a n c, .string (bs d), .func (.func 232) #[] #[]] w (SeaP (atU l d) w) := by
  have eg : ∀ args w, (callFunc 232 args).run Tryz.prog w = .ok (.enter 232 args) w := enters_of Tryz.func232 (by kernel_rfl) rfl
  have hl := h.1
  have H := hid h
  have HL := hid hl
  have HS := hid hs
  clear h hs hl
  go_enter Tryz.func231, Tryz.ntmps231
  go_wp2
  go_loopw [9, 10] (fun i j wr => ∃ lo hi : Nat, lo ≤ hi ∧ hi ≤ n ∧ i = .int .i64 (lo : Int) ∧ j = .int .i64 (hi : Int) ∧ Hid (∀ t, t < lo → (uA l t).dst < d) ∧ Hid (∀ t, hi ≤ t → t < n → ¬ (uA l t).dst < d) ∧ Below w.heap.size w wr) (fun i j _ => (intOf j).toNat - (intOf i).toNat)
  case atStart => exact ⟨0, n, Nat.zero_le _, Nat.le_refl _, rfl, rfl, hid (fun t ht => absurd ht (Nat.not_lt_zero _)), hid (fun t h1 h2 => by omega), Below.refl _ _⟩
  case round =>
    obtain ⟨lo, hi, hlh, hin, rfl, rfl, I1, I2, B⟩ := hrel
    by_cases hab : lo < hi
    · have hm1 : lo ≤ (lo + hi) / 2 := by omega
      have hm2 : (lo + hi) / 2 < hi := by omega
      have HM : (((lo : Int) + (hi : Int)) / 2) = (((lo + hi) / 2 : Nat) : Int) := by omega
      generalize (lo + hi) / 2 = m at *
      obtain ⟨b, off, rfl, hb, x0, x1, x2, x3, x4⟩ := (H.out.keep B).at_ m (by omega)
      have hm3 : (m : Int) < (n : Int) := by omega
      have HV := hid (show ∀ W, Calls Tryz.prog 232 #[.agg #[.string (bs (uA l m).src), .string (bs (uA l m).dst), .int .i64 (uA l m).kind, .int .i64 (uA l m).size, .int .i64 (uA l m).align], .string (bs d)] W fun e w' => e = .returned (.int .i64 (cmpL (uA l m).dst d)) ∧ Below W.heap.size W w' from fun W => byDst_x _ _ _ _ _ d W)
      have HLO := hid (show cmpL (uA l m).dst d < 0 → ∀ t, t < m + 1 → (uA l t).dst < d from fun e t ht => by
        have hlt := cmp_lt.1 e
        by_cases q : t = m
        · subst q; exact hlt
        · exact lt_tr (dst_lt HS.out (show t < m by omega) (by rw [HL.out]; omega)) hlt)
      have HHI := hid (show ¬ cmpL (uA l m).dst d < 0 → ∀ t, m ≤ t → t < n → ¬ (uA l t).dst < d from fun e t h1 h2 k => by
        have hlt : ¬ (uA l m).dst < d := fun q => e (cmp_lt.2 q)
        by_cases q : t = m
        · subst q; exact hlt k
        · exact hlt (lt_tr (dst_lt HS.out (show m < t by omega) (by rw [HL.out]; omega)) k))
      generalize cmpL (uA l m).dst d = cm at *
      generalize bs (uA l m).src = u0 at *
      generalize bs (uA l m).dst = u1 at *
      generalize (uA l m).kind = u2 at *
      generalize (uA l m).size = u3 at *
      generalize (uA l m).align = u4 at *
      have hm0 : (0 : Int) ≤ (m : Int) := by omega
      by_cases hc : cm < 0
      · have J1 := hid (HLO.out hc)
        clear HLO HHI
        go_wp2_with fail
        refine (HV.out _).mono ?_
        rintro e w2 ⟨rfl, b2⟩
        have B2 := bel_gbn B B.size (gb_below b2)
        clear b2 B HV x0 x1 x2 x3 x4
        go_wp2
        go_roundw
        case rel => exact ⟨m + 1, hi, by omega, hin, by go_num, rfl, J1, I2, B2⟩
        case measure => simp [intOf]; omega
      · have J2 := hid (HHI.out hc)
        clear HLO HHI
        go_wp2_with fail
        refine (HV.out _).mono ?_
        rintro e w2 ⟨rfl, b2⟩
        have B2 := bel_gbn B B.size (gb_below b2)
        clear b2 B HV x0 x1 x2 x3 x4
        go_wp2
        go_roundw
        case rel => exact ⟨lo, m, by omega, by omega, rfl, rfl, I1, J2, B2⟩
        case measure => simp [intOf]; omega
    · obtain rfl : lo = hi := by omega
      have HK := hid (show atU l d = lo from atU_is (by rw [HL.out]; exact hin) I1.out (fun t h1 h2 => I2.out t h1 (by rw [← HL.out]; exact h2)))
      clear I1 I2
      by_cases hln : lo < n
      · obtain ⟨b, off, rfl, hb, x0, x1, x2, x3, x4⟩ := (H.out.keep B).at_ lo (by omega)
        have hm3 : (lo : Int) < (n : Int) := by omega
        have hm0 : (0 : Int) ≤ (lo : Int) := by omega
        have HV := hid (show ∀ W, Calls Tryz.prog 232 #[.agg #[.string (bs (uA l lo).src), .string (bs (uA l lo).dst), .int .i64 (uA l lo).kind, .int .i64 (uA l lo).size, .int .i64 (uA l lo).align], .string (bs d)] W fun e w' => e = .returned (.int .i64 (cmpL (uA l lo).dst d)) ∧ Below W.heap.size W w' from fun W => byDst_x _ _ _ _ _ d W)
        generalize cmpL (uA l lo).dst d = cm at *
        generalize bs (uA l lo).src = u0 at *
        generalize bs (uA l lo).dst = u1 at *
        generalize (uA l lo).kind = u2 at *
        generalize (uA l lo).size = u3 at *
        generalize (uA l lo).align = u4 at *
        go_wp2_with fail
        refine (HV.out _).mono ?_
        rintro e w2 ⟨rfl, b2⟩
        have B2 := bel_gbn B B.size (gb_below b2)
        clear b2 B HV x0 x1 x2 x3 x4
        go_wp2
        go_ret2
        unfold SeaP; rw [HK.out]; exact ⟨_, rfl, B2⟩
      · have hm3 : ¬ (lo : Int) < (n : Int) := by omega
        go_wp2
        go_ret2
        unfold SeaP; rw [HK.out]; exact ⟨_, rfl, B⟩
theorem gnew_row (w : World) : URow 32 (w.alloc (.cells #[] 32)) w.heap.size (.slice (some ⟨w.heap.size, 0, none⟩) 0 0) [] :=
  World.ownsRow_made w #[] 0 (Nat.le_refl _) (Nat.zero_le _) (by simp)
theorem gclone_any (a : Option Addr) (n c : Nat) (l : List Ru) (w : World) (h : RuAt w a n c l) (hn : n ≤ 1000) :
    Calls Tryz.prog 127 #[.slice a n c] w fun e w' => ∃ v, e = .returned v ∧ URow 32 w' w.heap.size v l ∧ Below w.heap.size w w' := by
  have heq := fun (W : World) (a : Option Addr) (n c n' c' : Nat) => Lib.run_eql_slice_nil (P := Tryz.prog) W 38 _ a n c n' c' Tryz.underlying38
  cases a with
  | none =>
    obtain ⟨h0, e0⟩ := h.nothing
    subst h0
    subst e0
    clear h
    go_enter Tryz.func127, Tryz.ntmps127
    go_wp2
    go_ret
    exact ⟨_, rfl, URow.nil _ _ _, Below.refl _ _⟩
  | some ad =>
    have B1 := (Below.refl w.heap.size w).alloc (Nat.le_refl _) (.cells #[] 32)
    have R1 := hid (gnew_row w)
    have H1 := hid (h.keep B1)
    have HB := hid B1
    clear h B1
    go_enter Tryz.func127, Tryz.ntmps127
    go_wp2_with (at_builtin; refine wpList_append_gu rfl _ _ rfl w.heap.size _ [] rfl R1.out _ n c l rfl H1.out (by simp; omega) HB.out.size ?_; intro v2 w2 R2 g2)
    go_ret
    exact ⟨v2, rfl, R2, URow.bel HB.out HB.out.size R1.out (Nat.le_refl _) g2⟩
theorem mcopy_any (w : World) (bd bz : Nat) (LI : List (Tx × Value)) (hd : MapAt w bd []) (hs : MapAt w bz LI) (hne : bd ≠ bz) (hv : ∀ p ∈ LI, ∃ r, p.2 = ruV r) :
    Calls Tryz.prog 126 #[mp bd, mp bz] w fun e w' => e = .returned (.tuple #[]) ∧ (∃ LD, MapAt w' bd LD ∧ ∀ k, look LD k = look LI k) ∧ w.grownBy w' (some bd) := by
  have HS := hid hs
  have HD := hid hd
  have HV := hid hv
  have HN := hid hs.nodup
  have hdl := hd.lt
  have hsl := hs.lt
  clear hd hs hv
  go_enter Tryz.func126, Tryz.ntmps126
  go_wp2_with (first
    | (at_range; refine wpList_range_m _ rfl _ 173 rfl 9 32 Tryz.underlying173 bz LI rfl HS.out ?_; intro w1 hr1 g1 hs1))
  go_frame
  have R1 := hid hr1
  have G1 := hid (gb_none g1 (some bd))
  have D1 := hid (HD.out.gb g1 (by simp))
  have hsz1 : w.heap.size < w1.heap.size := by omega
  clear hr1 g1 hs1
  go_loopw [4] (fun _ wr => ∃ (left LD : List (Tx × Value)), Hid (MapAt wr bd LD) ∧ Hid (RngAt wr bz w.heap.size LI left) ∧ Hid ((keysL left).Nodup ∧ (∀ p ∈ left, look LI p.1 = some p.2) ∧ ∀ k, look LD k = if k ∈ keysL left then none else look LI k) ∧ Hid (w.grownBy wr (some bd))) (fun _ wr => wr.rangeLeft bz w.heap.size)
  case atStart => exact ⟨LI, [], D1, R1, hid ⟨HN.out, fun p hp => mem_look HN.out hp, fun k => by
    by_cases hk : k ∈ keysL LI
    · rw [if_pos hk]; rfl
    · rw [if_neg hk, look_none.2 hk]; rfl⟩, G1⟩
  case round =>
    obtain ⟨left, LD, D, R, I, G⟩ := hrel
    clear D1 R1 G1
    go_wp2_with (first
      | (at_next; refine wpList_next_m _ rfl _ rfl bz w.heap.size LI left rfl R.out ?_ ?_)
      | go_in)
    · intro h0
      subst h0
      go_wp2
      go_end0
      exact ⟨rfl, ⟨LD, D.out, fun k => by rw [I.out.2.2 k, if_neg (by simp [keysL])]⟩, G.out⟩
    · intro k v left' w2 hp hr2 g2 hs2 hen
      obtain ⟨i1, i2, i3⟩ := I.out
      have hkv : look LI k = some v := i2 (k, v) (hp.mem_iff.2 (by simp))
      obtain ⟨r, hr⟩ := HV.out (k, v) (look_mem hkv)
      simp only at hr
      have hnd : (keysL ((k, v) :: left')).Nodup := ((hp.map Prod.fst).nodup_iff).1 i1
      obtain ⟨n1, n2⟩ := List.nodup_cons.1 (show (k :: keysL left').Nodup from hnd)
      have I2 := hid (show (keysL left').Nodup ∧ (∀ p ∈ left', look LI p.1 = some p.2) ∧ ∀ j, look (ups LD k v) j = if j ∈ keysL left' then none else look LI j from by
        refine ⟨n2, fun p hp' => i2 p (hp.mem_iff.2 (List.mem_cons_of_mem _ hp')), fun j => ?_⟩
        by_cases hj : j = k
        · subst hj; rw [look_ups_same, if_neg n1, hkv]
        · rw [look_ups_ne _ hj, i3 j]
          have : j ∈ keysL left ↔ j ∈ keysL left' := by
            have h1 := (hp.map Prod.fst).mem_iff (a := j)
            show j ∈ left.map Prod.fst ↔ j ∈ left'.map Prod.fst
            rw [h1]; simp [hj]
          simp only [this])
      subst hr
      have hw2 : w.heap.size ≠ bd := by omega
      have D2 := hid (D.out.gb g2 (by simpa using fun e => hw2 e.symm))
      have G2 := hid (show w.grownBy w2 (some bd) from ⟨g2.os.trans G.out.os, g2.tape.trans G.out.tape, g2.output.trans G.out.output, Nat.le_trans G.out.size g2.size, fun i hi hr => (g2.block i (Nat.lt_of_lt_of_le hi G.out.size) (by simp; omega)).trans (G.out.block i hi hr)⟩)
      have hlen : left'.length < left.length := by rw [hp.length_eq]; simp
      have R2 := hid hr2
      have B3 := (Below.refl w2.heap.size w2).alloc (Nat.le_refl _) (.cells #[.string (bs r.src), .string (bs r.dst), .int .i64 r.kind, .int .i64 r.size, .int .i64 r.align] 32)
      have D3 := hid (D2.out.keep B3)
      have R3 := hid (R2.out.keep B3)
      have G3 := hid (gb_trans G2.out (gb_below (row := some bd) B3))
      have X3 := BoxU.new 32 w2 r
      clear hp hr2 g2 hs2 i1 i2 i3 hkv hnd n1 n2 D2 R2 G2 B3 I D G
      unfold ruV at hen
      have x0 := X3.x0
      have x1 := X3.x1
      have x2 := X3.x2
      have x3 := X3.x3
      have x4 := X3.x4
      clear X3
      go_wp2_with (first
        | (at_mapUpdate; refine wpList_mapUpdate_m _ rfl _ _ _ 173 rfl 9 32 Tryz.underlying173 Tryz.underlying9 bd _ rfl D3.out k _ rfl rfl (ruV r) rfl ?_; intro w4 hm4 g4 hs4))
      have R4 := hid (R3.out.same (g4.block bz R3.out.map.lt (by simpa using fun e => hne e.symm)) (g4.block _ R3.out.lt (by simpa using hw2)))
      have G4 := hid (gb_trans G3.out g4)
      have D4 := hid hm4
      clear hm4 g4 hs4 D3 R3 G3 x0 x1 x2 x3 x4
      go_wp2
      go_roundw
      case rel => exact ⟨_, _, _, _, _, _, _, _, _, _, ⟨left', _, D4, R4, I2, G4⟩, rfl⟩
      case measure => rw [R4.out.left_eq, R.out.left_eq]; exact hlen
def outK (L : List Ru) (ks : List Tx) (k : Tx) : List Ru := if k ∈ ks then [] else ofL L k
theorem gcopy_ok (w : World) (x bi bf : Nat) (F : Nat → Prop) (L : List Ru) (h : GrAt w x bi bf F L) (hL : L.length ≤ 1000) :
    Calls Tryz.prog 60 #[.pointer (some ⟨x, 0, none⟩)] w fun e w' => ∃ y ci cf F2, e = .returned (.pointer (some ⟨y, 0, none⟩)) ∧ GrAt w' y ci cf F2 L ∧ Below w.heap.size w w' ∧ w.heap.size ≤ y ∧ ∀ i, F2 i → w.heap.size ≤ i := by
  have HG := hid h
  obtain ⟨LI, i1, i2⟩ := h.into
  obtain ⟨LF, K, f1, f2, f3⟩ := h.from_
  have HI1 := hid i1
  have HI2 := hid i2
  have HF1 := hid f1
  have HF2 := hid f2
  have HF3 := hid f3
  have HFK := hid (fun k (hk : k ∈ keysL LF) => h.full LF f1 k hk)
  have HFN := hid f1.nodup
  have HFO := hid (show ∀ k, outK L (keysL LF) k = [] from fun k => by
    unfold outK
    by_cases hk : k ∈ keysL LF
    · rw [if_pos hk]
    · rw [if_neg hk]; exact f3.miss k (by rw [← f2, look_none]; exact hk))
  clear h i1 i2 f1 f2 f3
  go_enter Tryz.func60, Tryz.ntmps60
  go_wp2_with fail
  refine (gisNone_no w x bi bf HG.out.cell).mono ?_
  rintro e w' ⟨rfl, rfl⟩
  go_wp2_with fail
  refine (gnew_any w).mono ?_
  rintro e w1 ⟨y, ci, cf, F1, rfl, g1, b1, hy, hf1⟩
  have G1 := hid g1
  have B1 := hid b1
  have HF1' := hid hf1
  clear g1 b1 hf1
  go_wp2_with fail
  refine wp_region_still_tail 8 (by kernel_rfl) (by kernel_rfl) ?_
  simp only [List.take_succ_cons, List.take_zero, List.drop_succ_cons, List.drop_zero]
  change wpStill _ _ w1.drew (fun a' => wpList _ _ _ _ a' w1.drew) _ _
  have G2 := hid (G1.out.keep (Below.refl _ w1).drew)
  have B2 := hid B1.out.drew
  generalize w1.drew = W2 at *
  clear G1 B1
  have d0 := G2.out.cell.c0
  have c0 := (HG.out.cell.keep B2.out).c0
  repeat still_step
  refine wpStill_nil ?_
  obtain ⟨LJ, j1, j2⟩ := G2.out.into
  have hLJ : LJ = [] := keysL_nil (fun k hk => by
    have h1 := j2 k
    rw [show intoL [] k = none from rfl] at h1
    exact look_none.1 h1 hk)
  subst hLJ
  have hcl := HF1'.out ci G2.out.mid.fi
  have HMC := hid (mcopy_any W2 ci bi LI j1 (HI1.out.keep B2.out) (fun e => by have := HG.out.into.lt; omega) (fun p hp => by
    have h1 := mem_look HI1.out.nodup (show (p.1, p.2) ∈ LI from hp)
    rw [HI2.out] at h1
    cases e : intoL L p.1 with
    | none => rw [e] at h1; cases h1
    | some r => rw [e] at h1; simp only [Option.map_some, Option.some.injEq] at h1; exact ⟨r, h1.symm⟩))
  clear j1 j2
  go_wp2_with fail
  refine HMC.out.mono ?_
  rintro e w3 ⟨rfl, ⟨LD, hd1, hd2⟩, g3⟩
  have M3 := hid (show MidAt w3 y ci cf F1 (intoL L) (outK L (keysL LF)) from by
    have h1 := G2.out.mid.turnI g3 (J := intoL L) ⟨LD, hd1, fun k => by rw [hd2, HI2.out]⟩
    have e : outK L (keysL LF) = ofL [] := funext fun k => by rw [HFO.out]; rfl
    rw [e]; exact h1)
  have B3 := hid (show Below w.heap.size w w3 from bel_gb B2.out B2.out.size hcl g3)
  have S3 := hid (show ∀ LD, MapAt w3 cf LD → ∀ k, k ∈ keysL LD → k ∈ keysL LF from fun LD m k hk => by
    have h1 := G2.out.full LD (m.same (g3.block cf G2.out.mid.from_.lt (by simpa using fun e => G2.out.mid.ne e.symm)).symm) k hk
    exact absurd rfl h1)
  clear hd1 hd2 g3 HMC G2 B2 d0 c0
  have c1 := (HG.out.cell.keep B3.out).c1
  have HFr := hid (HF1.out.keep B3.out)
  go_wp2_with (first
    | (at_range; refine wpList_range_m _ rfl _ 174 rfl 9 38 Tryz.underlying174 bf LF rfl HFr.out ?_; intro w4 hr4 g4 hs4))
  go_frame
  have R4 := hid hr4
  have bb4 := gb_below_none g4
  have B4 := hid (B3.out.trans (bb4.mono B3.out.size))
  have M4 := hid (M3.out.keep bb4)
  have S4 := hid (show ∀ LD, MapAt w4 cf LD → ∀ k, k ∈ keysL LD → k ∈ keysL LF from fun LD m => S3.out LD (m.same (bb4.block cf M3.out.from_.lt).symm))
  have hcf := HF1'.out cf M3.out.ff
  have hrs : w.heap.size ≤ w3.heap.size := B3.out.size
  have hcf3 := M3.out.from_.lt
  have hci3 := M3.out.into.lt
  have hy3 := M3.out.xlt
  have HF13 := hid M3.out.lt
  clear hr4 g4 hs4 bb4 M3 B3 S3 c1 HFr
  generalize w3.heap.size = rr at *
  go_loopw [4] (fun _ wr => ∃ (left : List (Tx × Value)) (F2 : Nat → Prop), Hid (MidAt wr y ci cf F2 (intoL L) (outK L (keysL left))) ∧ Hid (RngAt wr bf rr LF left) ∧ Hid ((keysL left).Nodup ∧ (∀ p ∈ left, look LF p.1 = some p.2)) ∧ Hid (∀ i, F2 i → w.heap.size ≤ i ∧ i ≠ rr) ∧ Hid (Below w.heap.size w wr) ∧ Hid (∀ LD, MapAt wr cf LD → ∀ k, k ∈ keysL LD → k ∈ keysL LF)) (fun _ wr => wr.rangeLeft bf rr)
  case atStart => exact ⟨LF, F1, M4, R4, hid ⟨HFN.out, fun p hp => mem_look HFN.out hp⟩, hid (fun i hi => ⟨HF1'.out i hi, fun e => by have := HF13.out i hi; omega⟩), B4, S4⟩
  case round =>
    obtain ⟨left, F2, M, R, I, HF, B, S⟩ := hrel
    clear M4 R4 B4 S4
    go_wp2_with (first
      | (at_next; refine wpList_next_m _ rfl _ rfl bf rr LF left rfl R.out ?_ ?_)
      | go_in)
    · intro h0
      subst h0
      have eO : outK L (keysL ([] : List (Tx × Value))) = ofL L := funext fun k => by unfold outK; rw [if_neg (by simp [keysL])]
      rw [eO] at M
      go_wp2
      go_ret
      exact ⟨y, ci, cf, F2, rfl, ⟨M.out, HG.out.good, fun LD m k hk => HFK.out k (S.out LD m k hk)⟩, B.out, hy, fun i hi => (HF.out i hi).1⟩
    · intro k v left' w5 hp hr5 g5 hs5 hen
      obtain ⟨i1, i2⟩ := I.out
      have hkv : look LF k = some v := i2 (k, v) (hp.mem_iff.2 (by simp))
      have hKk : K k = some v := by rw [← HF2.out]; exact hkv
      obtain ⟨a, cap, ev, hat, _⟩ := (HF3.out.hit k v hKk).shape
      have hnd : (keysL ((k, v) :: left')).Nodup := ((hp.map Prod.fst).nodup_iff).1 i1
      obtain ⟨n1, n2⟩ := List.nodup_cons.1 (show (k :: keysL left').Nodup from hnd)
      have I2 := hid (show (keysL left').Nodup ∧ (∀ p ∈ left', look LF p.1 = some p.2) from ⟨n2, fun p hp' => i2 p (hp.mem_iff.2 (List.mem_cons_of_mem _ hp'))⟩)
      have hkF : k ∈ keysL LF := List.mem_map.2 ⟨_, look_mem hkv, rfl⟩
      have HO := hid (show ∀ j, outK L (keysL left') j = if j = k then ofL L k else outK L (keysL left) j from fun j => by
        unfold outK
        by_cases hj : j = k
        · subst hj; rw [if_neg n1, if_pos rfl]
        · rw [if_neg hj]
          have : j ∈ keysL left ↔ j ∈ keysL left' := by
            have h1 := (hp.map Prod.fst).mem_iff (a := j)
            show j ∈ left.map Prod.fst ↔ j ∈ left'.map Prod.fst
            rw [h1]; simp [hj]
          simp only [this])
      have hlen : left'.length < left.length := by rw [hp.length_eq]; simp
      have hOl : (ofL L k).length ≤ 1000 := Nat.le_trans (ofL_le _ _) hL
      subst ev
      have t5 : Tu (fun i => i = rr) wr w5 := .gb g5 rfl
      have M5 := hid (M.out.tu t5 (fun e => by omega) (fun i hi e => (HF.out i hi).2 e))
      have B5 := hid (bel_gb B.out B.out.size hrs g5)
      have S5 := hid (show ∀ LD, MapAt w5 cf LD → ∀ k, k ∈ keysL LD → k ∈ keysL LF from fun LD m => S.out LD (m.same (t5.block cf M.out.from_.lt (fun e => by omega)).symm))
      have R5 := hid hr5
      have HA := hid hat
      clear hp hr5 g5 hs5 i1 i2 hkv hKk hat hnd n1 n2 t5 M B S I
      obtain ⟨LD5, K5, d1, d2, d3⟩ := M5.out.from_
      have HD1 := hid d1
      have HD2 := hid d2
      have HD3 := hid d3
      have hS5 := hid (S5.out LD5 d1)
      have HCL := hid (gclone_any a (ofL L k).length cap (ofL L k) w5.drew (HA.out.keep B5.out.drew) hOl)
      generalize (ofL L k).length = n at *
      have hyl := M5.out.xlt
      have hyc : y ≠ cf := fun e => M5.out.nx (e ▸ M5.out.ff)
      have e1 := M5.out.cell.c1
      have HB5d := hid (show Below w5.heap.size w5 w5.drew from (Below.refl _ w5).drew)
      have HCd := hid (M5.out.cell.keep HB5d.out)
      clear d1 d2 d3 S5 HA
      go_wp2_with fail
      go_region_held3 (fun w' => w'.cell? ⟨y, 1, none⟩ = some (mp cf))
        (first
          | exact HE7.out
          | exact HE6.out
          | go_keep)
        (first
          | (go_at_call 127
             (with_reducible refine HCL.out.mono ?_)
             rintro e W6 ⟨v', rfl, r6, b6⟩
             have HE6 := hid (show W6.cell? ⟨y, 1, none⟩ = some (mp cf) from (HCd.out.keep b6).c1)
             have HM6 := hid ((HD1.out.keep HB5d.out).keep b6)
             obtain ⟨w7, hrun7, hm7, g7, hs7⟩ := HM6.out.update (P := Tryz.prog) Tryz.underlying174 Tryz.underlying9 k v'
             have HE7 := hid (show w7.cell? ⟨y, 1, none⟩ = some (mp cf) from ((HCd.out.keep b6).tu (Tu.gb (F := fun i => i = cf) g7 rfl) hyc).c1))
          | fail)
      obtain ⟨m1, m2, m3⟩ := M5.out.putO HD2.out HD3.out HB5d.out (W5 := w5.drew) (s := k) (gb_below b6) (r6.mono (Nat.zero_le _)) (fun g hg => .inl (r6.base hg)) hm7 g7 HO.out
      have B6 := hid (B5.out.drew.trans (b6.mono B5.out.size))
      have B7 := hid (bel_gb B6.out B6.out.size hcf g7)
      have M7 := hid m1
      have hrl := R5.out.lt
      have hrb := R5.out.map.lt
      have hbfl := HG.out.from_.lt
      have HF7 := hid (show ∀ o i, FO F2 o v' i → w.heap.size ≤ i ∧ i ≠ rr from fun o i hi => by
        rcases hi with f | e
        · exact HF.out i f.1
        · have h1 := r6.base e
          have h2 := B5.out.size
          have h3 : w5.heap.size ≤ i := h1
          exact ⟨by omega, by omega⟩)
      have R7 := hid (R5.out.same (w' := w7) ((g7.block bf (Nat.lt_of_lt_of_le hrb b6.size) (by simp; omega)).trans (b6.block bf hrb)) ((g7.block rr (Nat.lt_of_lt_of_le hrl b6.size) (by simp; omega)).trans (b6.block rr hrl)))
      have S7 := hid (show ∀ LD, MapAt w7 cf LD → ∀ j, j ∈ keysL LD → j ∈ keysL LF from fun LD m j hj => by
        rw [m.uniq hm7, keys_ups] at hj
        rcases hj with e | e
        · rw [e]; exact hkF
        · exact hS5.out j e)
      clear m1 m2 m3 r6 b6 HE6 HE7 HM6 hrun7 hm7 g7 hs7 HCL HCd HB5d e1 HD1 HD2 HD3 M5 B5 B6
      go_wp2
      go_roundw
      case rel => exact ⟨left', _, M7, R7, I2, hid (HF7.out _), B7, S7⟩
      case measure => rw [R7.out.left_eq, R.out.left_eq]; exact hlen
end Go.Proofs.YtmifpfojhlmbkaaGreat
