/-
  Contract of filter.Parse.
-/
import Derived.Test.YtifjbbiphekmmaaGreatDoorFVals
import Derived.Test.YtifjbbiphekmmaaGreatDoorFWord
import Derived.Laws.Rows
import Derived.Laws.ResultCell
namespace Go.Proofs.YtifjbbiphekmmaaGreatDoor
open Go.RowKit Go.Lib
set_option linter.unusedVariables false
set_option linter.unusedSimpArgs false

theorem results_cell_pair {P : Program} {fn : Func} {p u : Tmp} {ty : TypeId} (h : fn.results = #[.cell p ty, .tmp u]) (tmps : Array Value) (w : World) (g : Nat) (t : TypeId) (cs : Array Value) (fr : Nat × Nat) (d : TypeDesc) (v : Value)
    (hp : tmps.getD p undef = .pointer (some ⟨g, 0, none⟩)) (hv : tmps.getD u undef = v) (hg : w.heap[g]? = some (.cells cs t fr))
    (hu : P.underlying ty = some d) (hd : (match d with | .struct _ | .array _ _ => true | _ => false) = true) (hi : (P.info? ty).map (·.size) = some cs.size) :
    (results fn tmps).run P w = .ok (.tuple #[.agg cs, v]) w := by
  rw [results_cell_tmp h, hp, hv]
  simp [asAddr, run_loadVar_row w g t ty cs fr d hg hu hd hi, Result.andThen]

theorem TxAt.set {w : World} {x o : Nat} {v : Value} {a : Option Addr} {n c : Nat} {l : List Tx} (h : TxAt w a n c l) (hx : ∀ ad, a = some ad → ad.block ≠ x) : TxAt (w.setCell ⟨x, o, none⟩ v) a n c l := by
  obtain ⟨h1, h2, h3, h5⟩ := h
  refine ⟨h1, h2, h3, ?_⟩
  rcases h5 with h0 | ⟨b, off, rfl, hlt, hc⟩
  · exact .inl h0
  · refine .inr ⟨b, off, rfl, by simpa [World.setCell] using hlt, fun i hi => ?_⟩
    have hb : b ≠ x := hx _ rfl
    rw [← hc i hi]
    unfold World.cell?
    simp only [heap_set_ne hb]
theorem TyA.set {w : World} {x o : Nat} {v : Value} {a : Option Addr} (h : TyA w a) (hx : ∀ ad, a = some ad → ad.block ≠ x) : TyA (w.setCell ⟨x, o, none⟩ v) a := fun ad e => by
  obtain ⟨cs, f, k⟩ := h ad e
  exact ⟨cs, f, (heap_set_ne (hx ad e)).trans k⟩
def zTm : TmT := ⟨[], false, none, 0, 0, []⟩
def ParS (s : Tx) (tm : TmT) (er : Int) : Prop := (parseT s = some tm.trm ∧ er = 0) ∨ (parseT s = none ∧ tm = zTm ∧ er = 4)
def ParP (w : World) (s : Tx) (e : Ending) (w' : World) : Prop := ∃ (tm : TmT) (er : Int), e = .returned (.tuple #[tmV tm, .int .i64 er]) ∧ TmOk w' tm ∧ Below w.heap.size w w' ∧ TyA w' tm.a ∧ ParS s tm er
theorem right10_x (nm : Tx) (ng : Bool) (ad : Option Addr) (n c : Nat) (vs : List Tx) (W : World) (h : TxAt W ad n c vs) :
    Calls Tryz.prog 14 #[.agg #[.string (bs nm), .bool ng, .slice ad n c]] W fun r w' => r = .returned (.bool (decide (rightT (nm, ng, vs)))) ∧ Below W.heap.size W w' := right10_any ⟨nm, ng, ad, n, c, vs⟩ W h
theorem zTm_ok (w : World) : TmOk w zTm := TxAt.nil w none 0
theorem par_none {s : Tx} (h : cutAt 61 s = none) : ParS s zTm 4 := .inr ⟨by unfold parseT; rw [h], rfl, rfl⟩
theorem par_bad {s a r : Tx} (h : cutAt 61 s = some (a, r)) (hr : ¬ rightT ((nameT a).1, (nameT a).2, valsP r)) : ParS s zTm 4 :=
  .inr ⟨by
    unfold parseT; rw [h]
    show (if rightT (rawT a r) then some (rawT a r) else none) = none
    rw [if_neg (show ¬ rightT (rawT a r) from fun k => hr ((vals_right _ _ r).2 k))], rfl, rfl⟩
theorem par_ok {s a r : Tx} (h : cutAt 61 s = some (a, r)) (hr : rightT ((nameT a).1, (nameT a).2, valsP r)) (ad : Option Addr) (n c : Nat) : ParS s ⟨(nameT a).1, (nameT a).2, ad, n, c, valsP r⟩ 0 :=
  .inl ⟨by
    unfold parseT; rw [h]
    show (if rightT (rawT a r) then some (rawT a r) else none) = _
    rw [if_pos (show rightT (rawT a r) from (vals_right _ _ r).1 hr)]
    unfold rawT TmT.trm
    simp only
    rw [vals_eq hr], rfl⟩
theorem name_if (a : Tx) : nameT a = (if a.getLast? = some 33 then a.dropLast else a, decide (a.getLast? = some 33)) := by
  unfold nameT
  by_cases h : a.getLast? = some 33
  · rw [if_pos h, if_pos h, decide_eq_true h]
  · rw [if_neg h, if_neg h, decide_eq_false h]

set_option maxHeartbeats 2000000 in
theorem parse10_any (s : Tx) (w : World) (hs : s.length ≤ 100000) : Calls Tryz.prog 22 #[.string (bs s)] w (ParP w s) := by
  have HC := Lib.hid (fun W => cut10_any 61 s W (by omega))
  unfold cutV at HC
  have X0 := Lib.hid (BoxT.new 24 w zTm)
  have B0 := Lib.hid ((Below.refl w.heap.size w).alloc (Nat.le_refl _) (.cells #[.string ⟨#[]⟩, .bool false, .slice none 0 0] 24))
  have X0 : Hid ((w.alloc (.cells #[.string ⟨#[]⟩, .bool false, .slice none 0 0] 24)).heap[w.heap.size]? = some (.cells #[.string ⟨#[]⟩, .bool false, .slice none 0 0] 24 (0, 0))) := X0
  cases hc : cutAt 61 s with
  | none =>
    simp only [hc] at HC
    have HP := Lib.hid (par_none hc)
    clear hc
    go_enter Tryz.func22, Tryz.ntmps22
    go_wp2_with fail
    generalize w.alloc (.cells #[.string ⟨#[]⟩, .bool false, .slice none 0 0] 24) = W0 at *
    refine (HC.out W0).mono ?_
    rintro e w1 ⟨rfl, hd⟩
    have h1 := hd.bel.block _ (heap_lt X0.out) |>.trans X0.out
    have B1 := Lib.hid (B0.out.trans (hd.bel.mono B0.out.size))
    clear hd X0 B0
    have hx : w.heap.size ≤ w.heap.size := Nat.le_refl _
    have HX := Lib.hid hx
    clear hx
    generalize hq : w.heap.size = x at *
    have f0 := frozen_of (o := 0) h1
    have f1 := frozen_of (o := 1) h1
    have f2 := frozen_of (o := 2) h1
    have c0 : w1.cell? ⟨x, 0, none⟩ = some (.string ⟨#[]⟩) := by rw [cell_of h1]; rfl
    have c1 : w1.cell? ⟨x, 1, none⟩ = some (.bool false) := by rw [cell_of h1]; rfl
    have c2 : w1.cell? ⟨x, 2, none⟩ = some (.slice none 0 0) := by rw [cell_of h1]; rfl
    have H1 := Lib.hid h1
    clear h1
    go_wp2
    refine bodyPost_ret (results_cell_pair rfl _ _ x _ _ _ _ (.int .i64 4) rfl rfl (heap_set (heap_set (heap_set H1.out))) Tryz.underlying24 rfl (by kernel_rfl)) rfl ?_
    exact ⟨zTm, 4, rfl, zTm_ok _, by rw [hq]; exact (((B1.out.setCell (p := ⟨x, 0, none⟩) (Nat.le_refl _) _).setCell (p := ⟨x, 1, none⟩) (Nat.le_refl _) _).setCell (p := ⟨x, 2, none⟩) (Nat.le_refl _) _), TyA.noA _, HP.out⟩
  | some p =>
    obtain ⟨a, r⟩ := p
    simp only [hc] at HC
    have hl := cut_len hc
    have HP1 := Lib.hid (fun h => par_bad hc h)
    have HP2 := Lib.hid (fun h ad n c => par_ok hc h ad n c)
    have HS := Lib.hid (fun W => sufx_any 33 a W (by omega))
    have HV := Lib.hid (fun W => values_any r W (by omega))
    have HNM := Lib.hid (name_if a)
    clear hc hl
    obtain ⟨nm, hnm⟩ : ∃ nm, (if a.getLast? = some 33 then a.dropLast else a) = nm := ⟨_, rfl⟩
    obtain ⟨ng, hng⟩ : ∃ ng, decide (a.getLast? = some 33) = ng := ⟨_, rfl⟩
    rw [hnm, hng] at HNM
    simp only [hnm, hng] at HS
    clear hnm hng
    rw [HNM.out] at HP1 HP2
    simp only at HP1 HP2
    generalize bs a = ba at *
    generalize bs r = br at *
    generalize valsP r = vs at *
    have HRR := Lib.hid (fun ad n c W h => right10_x nm ng ad n c vs W h)
    have HRI : Hid (∀ (ad : Option Addr) (n c : Nat) (b : Bool), decide (rightT (nm, ng, vs)) = b → ((b = true → ParS s ⟨nm, ng, ad, n, c, vs⟩ 0) ∧ (b = false → ParS s zTm 4))) := Lib.hid fun ad n c b e => ⟨fun h => HP2.out (of_decide_eq_true (e.trans h)) ad n c, fun h => HP1.out (of_decide_eq_false (e.trans h))⟩
    clear HP1 HP2 HNM
    obtain ⟨b, hb⟩ : ∃ b, decide (rightT (nm, ng, vs)) = b := ⟨_, rfl⟩
    have HRB := Lib.hid (fun ad n c => HRI.out ad n c b hb)
    rw [hb] at HRR
    clear HRI hb
    go_enter Tryz.func22, Tryz.ntmps22
    go_wp2_with fail
    generalize w.alloc (.cells #[.string ⟨#[]⟩, .bool false, .slice none 0 0] 24) = W0 at *
    refine (HC.out W0).mono ?_
    rintro e w1 ⟨rfl, hd⟩
    have h1 := hd.bel.block _ (heap_lt X0.out) |>.trans X0.out
    have B1 := Lib.hid (B0.out.trans (hd.bel.mono B0.out.size))
    clear hd X0 B0 HC
    generalize hq : w.heap.size = x at *
    have X1 := Lib.hid h1
    clear h1
    go_wp2_with fail
    refine (HS.out w1).mono ?_
    rintro e w' ⟨rfl, rfl⟩
    go_wp2_with fail
    refine (HV.out w1).mono ?_
    rintro e w2 ⟨ta, tn, tc, rfl, t2, b2, na⟩
    have HNA := Lib.hid (show ∀ ad, ta = some ad → ad.block ≠ x from fun ad e => by have h1 := na.1 ad e; have h2 := heap_lt X1.out; omega)
    have X2 := Lib.hid (b2.block _ (heap_lt X1.out) |>.trans X1.out)
    have B2 := Lib.hid (B1.out.trans (b2.mono (by have := B1.out.size; omega)))
    have T2 := Lib.hid t2
    have Y2 := Lib.hid na.2
    clear na t2 b2 X1 B1 HS HV
    have HY := Lib.hid (BoxT.new 24 w2 ⟨nm, ng, ta, tn, tc, vs⟩)
    have B3 := Lib.hid ((Below.refl w2.heap.size w2).alloc (Nat.le_refl _) (.cells #[.string (bs nm), .bool ng, .slice ta tn tc] 24))
    simp only at HY
    have hs2 := B2.out.size
    have hxl := heap_lt X2.out
    go_wp2_with fail
    generalize hW3 : w2.alloc (.cells #[.string (bs nm), .bool ng, .slice ta tn tc] 24) = W3 at *
    have T3 := Lib.hid (T2.out.keep B3.out)
    have Y3 := Lib.hid (Y2.out.keep B3.out)
    have X3 := Lib.hid (B3.out.block _ hxl |>.trans X2.out)
    have B4 := Lib.hid (B2.out.trans (B3.out.mono (by have := B2.out.size; omega)))
    generalize w2.heap.size = y at *
    clear hW3 B3 T2 X2 B2
    refine (HRR.out ta tn tc W3 T3.out).mono ?_
    rintro e w4 ⟨rfl, b4⟩
    have T4 := Lib.hid (T3.out.keep b4)
    have Y4 := Lib.hid (Y3.out.keep b4)
    have h4 := b4.block _ (heap_lt X3.out) |>.trans X3.out
    have B5 := Lib.hid (B4.out.trans (b4.mono (by have := B4.out.size; omega)))
    have HY4 := Lib.hid (HY.out.keep b4)
    clear T3 X3 B4 b4 HY HRR
    have f0 := frozen_of (o := 0) h4
    have f1 := frozen_of (o := 1) h4
    have f2 := frozen_of (o := 2) h4
    have c0 : w4.cell? ⟨x, 0, none⟩ = some (.string ⟨#[]⟩) := by rw [cell_of h4]; rfl
    have c1 : w4.cell? ⟨x, 1, none⟩ = some (.bool false) := by rw [cell_of h4]; rfl
    have c2 : w4.cell? ⟨x, 2, none⟩ = some (.slice none 0 0) := by rw [cell_of h4]; rfl
    have H1 := Lib.hid h4
    clear h4
    have y0 := HY4.out.x0
    have y1 := HY4.out.x1
    have y2 := HY4.out.x2
    simp only at y0 y1 y2
    cases b
    · have HF := Lib.hid ((HRB.out ta tn tc).2 rfl)
      clear HRB
      go_wp2
      refine bodyPost_ret (results_cell_pair rfl _ _ x _ _ _ _ (.int .i64 4) rfl rfl (heap_set (heap_set (heap_set H1.out))) Tryz.underlying24 rfl (by kernel_rfl)) rfl ?_
      exact ⟨zTm, 4, rfl, zTm_ok _, by rw [hq]; exact (((B5.out.setCell (p := ⟨x, 0, none⟩) (Nat.le_refl _) _).setCell (p := ⟨x, 1, none⟩) (Nat.le_refl _) _).setCell (p := ⟨x, 2, none⟩) (Nat.le_refl _) _), TyA.noA _, HF.out⟩
    · have HF := Lib.hid ((HRB.out ta tn tc).1 rfl)
      clear HRB
      go_wp2
      refine bodyPost_ret (results_cell_pair rfl _ _ x _ _ _ _ (.int .i64 0) rfl rfl (heap_set (heap_set (heap_set H1.out))) Tryz.underlying24 rfl (by kernel_rfl)) rfl ?_
      refine ⟨⟨nm, ng, ta, tn, tc, vs⟩, 0, rfl, ?_, by rw [hq]; exact (((B5.out.setCell (p := ⟨x, 0, none⟩) (Nat.le_refl _) _).setCell (p := ⟨x, 1, none⟩) (Nat.le_refl _) _).setCell (p := ⟨x, 2, none⟩) (Nat.le_refl _) _), ((Y4.out.set HNA.out).set HNA.out).set HNA.out, HF.out⟩
      exact ((T4.out.set HNA.out).set HNA.out).set HNA.out
end Go.Proofs.YtifjbbiphekmmaaGreatDoor
