/-
  Contracts.
-/
import Derived.Test.YtmifpfojhlmbkaaGreatJ0
import Derived.Test.YtmifpfojhlmbkaaGreatJ33
import Derived.StillTailTactics
namespace Go.Proofs.YtmifpfojhlmbkaaGreat
set_option maxRecDepth 100000
set_option maxHeartbeats 16000000
open Go.RowKit
set_option linter.unusedVariables false
set_option linter.unusedSimpArgs false
theorem keys_set12 {k j : Tx} {l : List Lb} {E : List Ent} : j ∈ keysL (setE k l E) ↔ j = k ∨ j ∈ keysL E := by
  unfold setE
  rw [keys_insG, keys_dels]
  constructor
  · rintro (h | h)
    · exact .inl h
    · exact .inr h.1
  · rintro (h | h)
    · exact .inl h
    · by_cases e : j = k
      · exact .inl e
      · exact .inr ⟨h, e⟩
structure PutT (w w' : World) (x : Nat) (m m' : Mem) (E : List Ent) (o : Nat) (P' : Spc) : Prop where
  sp : SpAt w' x m' P'
  ext : ∀ i, Own m' P'.E i → Own m E i ∨ i = o ∨ w.heap.size ≤ i
  trn : Trn (Own m E) w w'
theorem SpAt.putTurn {w w1 w2 : World} {x : Nat} {m : Mem} {P : Spc} {k : Tx} {l : List Lb} {sz : Int} {s : Ser} {o : Nat} {L : List (Tx × Value)} {ρ' : Rho} (h : SpAt w x m P) (hk : ¬ P.has k) (ho : okE k l)
    (hl2 : ∀ j, look L j = if j ∈ keysL P.E then some (heldV (P.Z j) (m.B j)) else none) (hL : MapAt w m.mb L) (hm : MapAt w1 m.mb (ups L k (heldV sz o))) (g : w.grownBy w1 (some m.mb))
    (t : IxTurn w1 w2 m.ix m.bl m.bn m.ρ ρ' (stepE k l P.E)) (hs : SerAt w o sz s) (hS : Std s) (hz : 128 ≤ sz ∧ sz ≤ 4096) (hO : ¬ Own m P.E o) :
    PutT w w2 x m { m with ρ := ρ', B := upd m.B k o } P.E o (putSp P k sz s l) := by
  have hst : stepE k l P.E = setE k l P.E := if_pos ho
  have t1 : Trn (fun i => i = m.mb) w w1 := .map g rfl hL.isMap
  have tt : Trn (fun i => i = m.mb ∨ FA m.ρ i) w w2 := (t1.mono (G := fun i => i = m.mb ∨ FA m.ρ i) (fun i _ e => .inl e)).trans t.trn (fun i _ f => .inr f)
  have ts := Ts.trn tt
  have hsz1 : w1.heap.size ≥ w.heap.size := g.size
  have hext : ∀ i, FA ρ' i → FA m.ρ i ∨ w.heap.size ≤ i := fun i f => by
    by_cases hi : i < w1.heap.size
    · left; unfold FA at f ⊢; rw [← t.ext i hi]; exact f
    · right; omega
  have hoff : ∀ b sz' s', SerAt w b sz' s' → ¬ (b = m.mb ∨ FA m.ρ b) := fun b sz' s' q => by
    obtain ⟨cs, hc⟩ := q.cellS
    rintro (e | f)
    · obtain ⟨es, c, hmm⟩ := hL.isMap
      rw [← e, hc] at hmm; cases hmm
    · cases e : m.ρ b with
      | none => exact f e
      | some r =>
        obtain ⟨es, c, hmm⟩ := h.ix.ok _ r e
        rw [hc] at hmm; cases hmm
  have hkeys : ∀ j, (putSp P k sz s l).has j ↔ j = k ∨ P.has j := fun j => keys_set12
  have hB : ∀ j, P.has j → m.B j ≠ o := fun j hj e => hO (.inr (.inr (.inr ⟨j, hj, e.symm⟩)))
  refine ⟨⟨ts.cells _ _ _ _ (by decide) (by decide) h.cell, ?_, ?_, h.gr.ts ts (fun i f q => ?_), fun j hj => ?_, fun i j hi hj e => ?_, fun f => ?_, h.mf, fun i f a => ?_, ?_⟩, fun i f => ?_, tt.mono (fun i _ q => ?_)⟩
  · refine ⟨_, hm.same (t.trn.block m.mb hm.lt h.ma), fun j => ?_⟩
    show look (ups L k (heldV sz o)) j = if j ∈ keysL (setE k l P.E) then some (heldV (upd P.Z k sz j) (upd m.B k o j)) else none
    by_cases e : j = k
    · subst e
      rw [look_ups_same, if_pos (keys_set12.2 (.inl rfl)), upd_k, upd_k]
    · rw [look_ups_ne _ e, hl2, upd_n _ _ e, upd_n _ _ e]
      by_cases hj : j ∈ keysL P.E
      · rw [if_pos hj, if_pos (keys_set12.2 (.inr hj))]
      · rw [if_neg hj, if_neg (fun q => (keys_set12.1 q).elim e hj)]
  · show IxAt w2 m.ix m.bl m.bn ρ' (setE k l P.E)
    rw [← hst]; exact t.ix
  · rcases q with e | q
    · exact h.mf (by rw [← e]; exact f)
    · exact h.fa i f q
  · show SerAt w2 (upd m.B k o j) (upd P.Z k sz j) (upd P.S k s j)
    by_cases e : j = k
    · subst e
      rw [upd_k, upd_k, upd_k]
      exact hs.ts ts (hoff _ _ _ hs)
    · rw [upd_n _ _ e, upd_n _ _ e, upd_n _ _ e]
      have hj' := ((hkeys j).1 hj).resolve_left e
      exact (h.ser j hj').ts ts (hoff _ _ _ (h.ser j hj'))
  · replace e : upd m.B k o i = upd m.B k o j := e
    by_cases ei : i = k
    · by_cases ej : j = k
      · rw [ei, ej]
      · rw [ei, upd_k, upd_n _ _ ej] at e
        exact absurd e.symm (hB j (((hkeys j).1 hj).resolve_left ej))
    · by_cases ej : j = k
      · rw [ej, upd_k, upd_n _ _ ei] at e
        exact absurd e (hB i (((hkeys i).1 hi).resolve_left ei))
      · rw [upd_n _ _ ei, upd_n _ _ ej] at e
        exact h.inj i j (((hkeys i).1 hi).resolve_left ei) (((hkeys j).1 hj).resolve_left ej) e
  · rcases hext _ f with q | q
    · exact h.ma q
    · exact absurd (show w.heap.size ≤ m.mb from q) (by have := hL.lt; omega)
  · rcases hext _ a with q | q
    · exact h.fa i f q
    · have := h.gr.lt i f; omega
  · refine ⟨?_, h.ok.gG, fun r hr => ⟨(hkeys _).2 (.inr (h.ok.ends r hr).1), (hkeys _).2 (.inr (h.ok.ends r hr).2)⟩, fun j hj => ?_, fun j hj => ?_⟩
    · show GoodE (setE k l P.E)
      rw [← hst]; exact t.ix.good
    · show Std (upd P.S k s j)
      by_cases e : j = k
      · subst e; rw [upd_k]; exact hS
      · rw [upd_n _ _ e]; exact h.ok.std j (((hkeys j).1 hj).resolve_left e)
    · show 128 ≤ upd P.Z k sz j ∧ upd P.Z k sz j ≤ 4096
      by_cases e : j = k
      · subst e; rw [upd_k]; exact hz
      · rw [upd_n _ _ e]; exact h.ok.siz j (((hkeys j).1 hj).resolve_left e)
  · rcases f with e | f | f | ⟨j, hj, e⟩
    · exact .inl (.inl e)
    · rcases hext i f with q | q
      · exact .inl (.inr (.inl q))
      · exact .inr (.inr q)
    · exact .inl (.inr (.inr (.inl f)))
    · replace e : i = upd m.B k o j := e
      by_cases ej : j = k
      · rw [ej, upd_k] at e; exact .inr (.inl e)
      · rw [upd_n _ _ ej] at e
        exact .inl (.inr (.inr (.inr ⟨j, ((hkeys j).1 hj).resolve_left ej, e⟩)))
  · rcases q with e | q
    · exact .inl e
    · exact .inr (.inl q)
theorem PutT.pre {w w1 w2 : World} {x : Nat} {m m' : Mem} {E : List Ent} {o : Nat} {P' : Spc} (h : PutT w1 w2 x m m' E o P') (b : Below w.heap.size w w1) (ho : w.heap.size ≤ o) : SpTurn w w2 x m m' E P' :=
  ⟨h.sp, fun i f => by
    rcases h.ext i f with q | q | q
    · exact .inl q
    · exact .inr (by omega)
    · exact .inr (Nat.le_trans b.size q), (Ts.trn h.trn).afterB b⟩
theorem hPut (w : World) (x : Nat) (m : Mem) (P : Spc) (k : Tx) (sz ret pol : Int) (a : Option Addr) (n c : Nat) (l : List Lb) (o : Nat) (s : Ser) (h : SpAt w x m P) (hl : LbAt w a n c l) (hk : ¬ P.has k) (ho : okE k l) (hs : SerAt w o sz s) (hS : Std s) (hz : 128 ≤ sz ∧ sz ≤ 4096) (hO : ¬ Own m P.E o) :
    Calls Tryz.prog 85 #[.pointer (some ⟨x, 0, none⟩), .string (bs k), .agg #[.int .i64 sz, .int .i64 ret, .int .i64 pol, .slice a n c], .pointer (some ⟨o, 0, none⟩)] w
      fun e w' => e = .returned (.tuple #[]) ∧ ∃ m' w1, PutT w1 w' x m m' P.E o (putSp P k sz s l) ∧ Below w.heap.size w w1 := by
  have B1 := (Below.refl w.heap.size w).alloc (Nat.le_refl _) (.cells #[.int .i64 sz, .int .i64 ret, .int .i64 pol, .slice a n c] 30)
  have HX := Lib.hid (show BoxN (w.alloc (.cells #[.int .i64 sz, .int .i64 ret, .int .i64 pol, .slice a n c] 30)) w.heap.size sz ret pol (.slice a n c) from heap_new w _)
  have H1 := Lib.hid (h.keep B1)
  have L1 := Lib.hid (hl.keep B1)
  have S1 := Lib.hid (hs.keepB B1)
  have HB1 := Lib.hid B1
  have HK := Lib.hid hk
  have HO := Lib.hid ho
  have HSt := Lib.hid hS
  have HOn := Lib.hid hO
  clear h hl hs B1 hk ho hS hO
  go_enter Tryz.func85, Tryz.ntmps85
  go_wp2_with fail
  generalize hBB : w.heap.size = B0 at *
  have HBB := Lib.hid hBB
  generalize w.alloc (.cells #[.int .i64 sz, .int .i64 ret, .int .i64 pol, .slice a n c] 30) = w1 at *
  clear hBB
  refine wp_region_still_tail 9 (by kernel_rfl) (by kernel_rfl) ?_
  simp only [List.take_succ_cons, List.take_zero, List.drop_succ_cons, List.drop_zero]
  change wpStill _ _ w1.drew (fun a' => wpList _ _ _ _ a' w1.drew) _ _
  have bd := (Below.refl w1.heap.size w1).drew
  have H2 := Lib.hid (H1.out.keep bd)
  have L2 := Lib.hid (L1.out.keep bd)
  have S2 := Lib.hid (S1.out.keepB bd)
  have X2 := Lib.hid (HX.out.keep bd)
  have HB2 := Lib.hid (show Below B0 w w1.drew from HB1.out.trans (bd.mono (Nat.le_of_lt (heap_lt HX.out))))
  clear bd H1 L1 S1 HX HB1
  generalize w1.drew = W at *
  have c0 := H2.out.cell.c0
  have x0 := X2.out.x0
  repeat still_step
  refine wpStill_nil ?_
  obtain ⟨L, l1, l2⟩ := H2.out.map
  have HL1 := Lib.hid l1
  have HL2 := Lib.hid l2
  clear l1 l2
  go_wp2_with (first
    | (at_mapUpdate; refine wpList_mapUpdate_m _ rfl _ _ _ 92 rfl 9 105 Tryz.underlying92 Tryz.underlying9 m.mb _ rfl HL1.out k _ rfl rfl (heldV sz o) rfl ?_; intro w3 hm3 g3 hs3))
  have t3 : Trn (fun i => i = m.mb) W w3 := .map g3 rfl HL1.out.isMap
  have HM3 := Lib.hid hm3
  have G3 := Lib.hid g3
  have L3 := Lib.hid (L2.out.trn t3)
  have X3 := Lib.hid (show BoxN w3 B0 sz ret pol (.slice a n c) from t3.cells _ _ _ _ X2.out)
  have C3 := Lib.hid (show SpCell w3 x m from t3.cells _ _ _ _ H2.out.cell)
  have I3 := Lib.hid (H2.out.ix.trn t3 (fun i _ f e => H2.out.ma (e ▸ f)))
  clear hm3 g3 hs3 t3 c0 x0
  go_wp2_with fail
  refine wp_region_still_tail 7 (by kernel_rfl) (by kernel_rfl) ?_
  simp only [List.take_succ_cons, List.take_zero, List.drop_succ_cons, List.drop_zero]
  change wpStill _ _ w3.drew (fun a' => wpList _ _ _ _ a' w3.drew) _ _
  have bd := (Below.refl w3.heap.size w3).drew
  have HM4 := Lib.hid (HM3.out.keep bd)
  have G4 := Lib.hid (gb_trans G3.out (gb_below (row := some m.mb) bd))
  have L4 := Lib.hid (L3.out.keep bd)
  have x3 := (X3.out.keep bd).x3
  have c1 := (SpCell.c1 (show SpCell w3.drew x m from C3.out))
  have I4 := Lib.hid (I3.out.keep bd)
  clear bd HM3 G3 L3 X3 C3 I3
  generalize w3.drew = W4 at *
  repeat still_step
  refine wpStill_nil ?_
  go_wp2_with fail
  refine (iset_ok W4 m.ix m.bl m.bn m.ρ P.E k a n c l I4.out L4.out).mono ?_
  rintro e w5 ⟨rfl, ρ', t5⟩
  have T5 := Lib.hid (H2.out.putTurn (sz := sz) (s := s) (o := o) HK.out HO.out HL2.out HL1.out HM4.out G4.out t5 S2.out HSt.out hz HOn.out)
  clear t5 x3 c1
  go_wp2
  go_end0
  exact ⟨rfl, _, W, T5.out, by rw [HBB.out]; exact HB2.out⟩
end Go.Proofs.YtmifpfojhlmbkaaGreat
namespace Go.Proofs.YtmifpfojhlmbkaaGreat
set_option maxRecDepth 100000
set_option maxHeartbeats 16000000
open Go.RowKit
set_option linter.unusedVariables false
set_option linter.unusedSimpArgs false
theorem atU_is {l : List Ru} {d : Tx} {i : Nat} (hi : i ≤ l.length) (h1 : ∀ t, t < i → (uA l t).dst < d) (h2 : ∀ t, i ≤ t → t < l.length → ¬ (uA l t).dst < d) : atU l d = i := by
  have e : l = l.take i ++ l.drop i := (List.take_append_drop _ _).symm
  unfold atU
  rw [e, List.countP_append]
  have e1 : (l.take i).countP (fun x => decide (x.dst < d)) = i := by
    have hl : (l.take i).length = i := by rw [List.length_take]; omega
    conv => rhs; rw [← hl]
    rw [List.countP_eq_length]
    intro x hx
    obtain ⟨t, ht, rfl⟩ := List.getElem_of_mem hx
    have := h1 t (by omega)
    rw [uA_get (by omega)] at this
    rw [List.getElem_take]; simpa using this
  have e2 : (l.drop i).countP (fun x => decide (x.dst < d)) = 0 := by
    rw [List.countP_eq_zero]
    intro x hx
    obtain ⟨t, ht, rfl⟩ := List.getElem_of_mem hx
    rw [List.length_drop] at ht
    have := h2 (i + t) (by omega) (by omega)
    rw [uA_get (by omega)] at this
    rw [List.getElem_drop]; simpa using this
  rw [e1, e2, Nat.add_zero]
theorem cmp_lt {x y : Tx} : cmpL x y < 0 ↔ x < y := by
  unfold cmpL
  by_cases h1 : x < y
  · simp [h1]
  · by_cases h2 : y < x <;> simp [h1, h2]
theorem dst_lt {l : List Ru} (h : l.Pairwise (fun a b => a.dst < b.dst)) {i j : Nat} (hij : i < j) (hj : j < l.length) : (uA l i).dst < (uA l j).dst := by
  rw [uA_get (by omega), uA_get hj]
  exact List.pairwise_iff_getElem.1 h i j (by omega) hj hij
theorem byDst_x (s t : Tx) (k n a : Int) (d : Tx) (w : World) : Calls Tryz.prog 232 #[.agg #[.string (bs s), .string (bs t), .int .i64 k, .int .i64 n, .int .i64 a], .string (bs d)] w fun e w' => e = .returned (.int .i64 (cmpL t d)) ∧ Below w.heap.size w w' := byDst_any ⟨s, t, k, n, a⟩ d w
def SeaP (k : Nat) (w : World) (e : Ending) (w' : World) : Prop := ∃ b, e = .returned (.tuple #[.int .i64 (k : Int), .bool b]) ∧ Below w.heap.size w w'
theorem bsearch_any (a : Option Addr) (n c : Nat) (l : List Ru) (d : Tx) (w : World) (h : RuAt w a n c l) (hn : n ≤ 1000) (hs : l.Pairwise (fun a b => a.dst < b.dst)) :
    Calls Tryz.prog 231 #[.slice a n c, .string (bs d), .func (.func 232) #[] #[]] w (SeaP (atU l d) w) := by
  have eg : ∀ args w, (callFunc 232 args).run Tryz.prog w = .ok (.enter 232 args) w := enters_of Tryz.func232 (by kernel_rfl) rfl
  have hl := h.1
  have H := Lib.hid h
  have HL := Lib.hid hl
  have HS := Lib.hid hs
  clear h hs hl
  go_enter Tryz.func231, Tryz.ntmps231
  go_wp2
  go_loopw [9, 10] (fun i j wr => ∃ lo hi : Nat, lo ≤ hi ∧ hi ≤ n ∧ i = .int .i64 (lo : Int) ∧ j = .int .i64 (hi : Int) ∧ Hid (∀ t, t < lo → (uA l t).dst < d) ∧ Hid (∀ t, hi ≤ t → t < n → ¬ (uA l t).dst < d) ∧ Below w.heap.size w wr) (fun i j _ => (intOf j).toNat - (intOf i).toNat)
  case atStart => exact ⟨0, n, Nat.zero_le _, Nat.le_refl _, rfl, rfl, Lib.hid (fun t ht => absurd ht (Nat.not_lt_zero _)), Lib.hid (fun t h1 h2 => by omega), Below.refl _ _⟩
  case round =>
    obtain ⟨lo, hi, hlh, hin, rfl, rfl, I1, I2, B⟩ := hrel
    by_cases hab : lo < hi
    · have hm1 : lo ≤ (lo + hi) / 2 := by omega
      have hm2 : (lo + hi) / 2 < hi := by omega
      have HM : (((lo : Int) + (hi : Int)) / 2) = (((lo + hi) / 2 : Nat) : Int) := by omega
      generalize (lo + hi) / 2 = m at *
      obtain ⟨b, off, rfl, hb, x0, x1, x2, x3, x4⟩ := (H.out.keep B).at_ m (by omega)
      have hm3 : (m : Int) < (n : Int) := by omega
      have HV := Lib.hid (show ∀ W, Calls Tryz.prog 232 #[.agg #[.string (bs (uA l m).src), .string (bs (uA l m).dst), .int .i64 (uA l m).kind, .int .i64 (uA l m).size, .int .i64 (uA l m).align], .string (bs d)] W fun e w' => e = .returned (.int .i64 (cmpL (uA l m).dst d)) ∧ Below W.heap.size W w' from fun W => byDst_x _ _ _ _ _ d W)
      have HLO := Lib.hid (show cmpL (uA l m).dst d < 0 → ∀ t, t < m + 1 → (uA l t).dst < d from fun e t ht => by
        have hlt := cmp_lt.1 e
        by_cases q : t = m
        · subst q; exact hlt
        · exact lt_tr (dst_lt HS.out (show t < m by omega) (by rw [HL.out]; omega)) hlt)
      have HHI := Lib.hid (show ¬ cmpL (uA l m).dst d < 0 → ∀ t, m ≤ t → t < n → ¬ (uA l t).dst < d from fun e t h1 h2 k => by
        have hlt : ¬ (uA l m).dst < d := fun q => e (cmp_lt.2 q)
        by_cases q : t = m
        · subst q; exact hlt k
        · exact hlt (lt_tr (dst_lt HS.out (show m < t by omega) (by rw [HL.out]; omega)) k))
      generalize cmpL (uA l m).dst d = cm at *
      generalize bs (uA l m).src = u0 at *
      generalize bs (uA l m).dst = u1 at *
      generalize (uA l m).kind = u2 at *
      generalize (uA l m).size = u3 at *
      generalize (uA l m).align = u4 at *
      have hm0 : (0 : Int) ≤ (m : Int) := by omega
      by_cases hc : cm < 0
      · have J1 := Lib.hid (HLO.out hc)
        clear HLO HHI
        go_wp2_with fail
        refine (HV.out _).mono ?_
        rintro e w2 ⟨rfl, b2⟩
        have B2 := bel_gbn B B.size (gb_below b2)
        clear b2 B HV x0 x1 x2 x3 x4
        go_wp2
        go_roundw
        case rel => exact ⟨m + 1, hi, by omega, hin, by go_num, rfl, J1, I2, B2⟩
        case measure => simp [intOf]; omega
      · have J2 := Lib.hid (HHI.out hc)
        clear HLO HHI
        go_wp2_with fail
        refine (HV.out _).mono ?_
        rintro e w2 ⟨rfl, b2⟩
        have B2 := bel_gbn B B.size (gb_below b2)
        clear b2 B HV x0 x1 x2 x3 x4
        go_wp2
        go_roundw
        case rel => exact ⟨lo, m, by omega, by omega, rfl, rfl, I1, J2, B2⟩
        case measure => simp [intOf]; omega
    · obtain rfl : lo = hi := by omega
      have HK := Lib.hid (show atU l d = lo from atU_is (by rw [HL.out]; exact hin) I1.out (fun t h1 h2 => I2.out t h1 (by rw [← HL.out]; exact h2)))
      clear I1 I2
      by_cases hln : lo < n
      · obtain ⟨b, off, rfl, hb, x0, x1, x2, x3, x4⟩ := (H.out.keep B).at_ lo (by omega)
        have hm3 : (lo : Int) < (n : Int) := by omega
        have hm0 : (0 : Int) ≤ (lo : Int) := by omega
        have HV := Lib.hid (show ∀ W, Calls Tryz.prog 232 #[.agg #[.string (bs (uA l lo).src), .string (bs (uA l lo).dst), .int .i64 (uA l lo).kind, .int .i64 (uA l lo).size, .int .i64 (uA l lo).align], .string (bs d)] W fun e w' => e = .returned (.int .i64 (cmpL (uA l lo).dst d)) ∧ Below W.heap.size W w' from fun W => byDst_x _ _ _ _ _ d W)
        generalize cmpL (uA l lo).dst d = cm at *
        generalize bs (uA l lo).src = u0 at *
        generalize bs (uA l lo).dst = u1 at *
        generalize (uA l lo).kind = u2 at *
        generalize (uA l lo).size = u3 at *
        generalize (uA l lo).align = u4 at *
        go_wp2_with fail
        refine (HV.out _).mono ?_
        rintro e w2 ⟨rfl, b2⟩
        have B2 := bel_gbn B B.size (gb_below b2)
        clear b2 B HV x0 x1 x2 x3 x4
        go_wp2
        go_ret2
        unfold SeaP; rw [HK.out]; exact ⟨_, rfl, B2⟩
      · have hm3 : ¬ (lo : Int) < (n : Int) := by omega
        go_wp2
        go_ret2
        unfold SeaP; rw [HK.out]; exact ⟨_, rfl, B⟩
theorem gnew_row (w : World) : URow 32 (w.alloc (.cells #[] 32)) w.heap.size (.slice (some ⟨w.heap.size, 0, none⟩) 0 0) [] :=
  World.ownsRow_made w #[] 0 (Nat.le_refl _) (Nat.zero_le _) (by simp)
theorem gclone_any (a : Option Addr) (n c : Nat) (l : List Ru) (w : World) (h : RuAt w a n c l) (hn : n ≤ 1000) :
    Calls Tryz.prog 127 #[.slice a n c] w fun e w' => ∃ v, e = .returned v ∧ URow 32 w' w.heap.size v l ∧ Below w.heap.size w w' := by
  have heq := fun (W : World) (a : Option Addr) (n c n' c' : Nat) => Lib.run_eql_slice_nil (P := Tryz.prog) W 38 _ a n c n' c' Tryz.underlying38
  cases a with
  | none =>
    obtain ⟨h0, e0⟩ := h.nothing
    subst h0
    subst e0
    clear h
    go_enter Tryz.func127, Tryz.ntmps127
    go_wp2
    go_ret
    exact ⟨_, rfl, URow.nil _ _ _, Below.refl _ _⟩
  | some ad =>
    have B1 := (Below.refl w.heap.size w).alloc (Nat.le_refl _) (.cells #[] 32)
    have R1 := Lib.hid (gnew_row w)
    have H1 := Lib.hid (h.keep B1)
    have HB := Lib.hid B1
    clear h B1
    go_enter Tryz.func127, Tryz.ntmps127
    go_wp2_with (at_builtin; refine wpList_append_gu rfl _ _ rfl w.heap.size _ [] rfl R1.out _ n c l rfl H1.out (by simp; omega) HB.out.size ?_; intro v2 w2 R2 g2)
    go_ret
    exact ⟨v2, rfl, R2, URow.bel HB.out HB.out.size R1.out (Nat.le_refl _) g2⟩
end Go.Proofs.YtmifpfojhlmbkaaGreat
