/-
  The statement 'AggTells' of layer 6: any kind's name, any name's kind, and where any time's bucket begins and ends, is as the document says.
  No condition on the arguments; the tables (the kinds' names, and Go's own for texts) are as the program's text lays them (the card ties that).
-/
import Derived.Test.YtojnalpmibpchaaDoorAKnown
import Derived.Test.YtojnalpmibpchaaDoorALaid
import Derived.Test.YtojnalpmibpchaaDoorTie
import Derived.Test.YtojnalpmibpchaaDoorCards
import Derived.Test.YtojnalpmibpchaaDoorAFoldW
import Derived.Test.YtojnalpmibpchaaDoorARText
import Derived.Test.YtojnalpmibpchaaDoorARTime
import Derived.ShutString
import Derived.Deep.RegionHeld3
import Derived.BigRegion
import Derived.Laws.IdiomArrays
import Derived.ChangeOld
import Derived.SevenTiedAt
namespace Go.Proofs.YtojnalpmibpchaaDoor
namespace aggTells
open Go.ChangeShapes Go.WideShapes Go.ChangeAt Go.RowKit
open Go.ChangeMaps (open_string shut_string)
set_option linter.unusedVariables false
set_option linter.unusedSimpArgs false

theorem own : ownKnob Tryd.prog.godebug = none := by kernel_rfl

theorem laidOut : laidOutB Tryd.prog = true := by kernel_rfl
set_option maxRecDepth 100000 in
theorem open_arr3 {H : Type} {enc : TypeId × Value → H} {W : World} {r : Reach} {b0 : Nat} {v : Value} {d : DataW H} {p : List MemPlace}
    (hv : Value.okWide Tryd.prog W r b0 22 v) (h : DataW.Trod enc Tryd.prog W 0 (fun _ => true) true 22 v d p) :
    ∃ z : Int × Int × Int, v = .agg #[.int .i64 z.1, .int .i64 z.2.1, .int .i64 z.2.2] ∧ in64 z.1 ∧ in64 z.2.1 ∧ in64 z.2.2 := by
  simp only [Value.okWide, Tryd.underlying22] at hv
  obtain ⟨cs, rfl, hsz, _⟩ := hv
  have hc : cs.size = 3 := hsz.trans (by kernel_rfl)
  obtain ⟨l⟩ := cs
  match l, hc with
  | [c0, c1, c2], _ =>
    obtain ⟨fuel, hf⟩ := h
    obtain ⟨y0, y1, y2, n, _, h0, h1, h2⟩ := trod_array3 Tryd.underlying22 (by kernel_rfl) hf
    obtain ⟨n0, e0, _, w0⟩ := DataW.trod_int Tryd.underlying3 h0
    obtain ⟨n1, e1, _, w1⟩ := DataW.trod_int Tryd.underlying3 h1
    obtain ⟨n2, e2, _, w2⟩ := DataW.trod_int Tryd.underlying3 h2
    simp at e0 e1 e2
    subst e0 e1 e2
    exact ⟨(n0, n1, n2), rfl, bounds_i64 w0, bounds_i64 w1, bounds_i64 w2⟩

/-- The tables that the walks ask for. -/
def TablesAt (w : World) : Prop := ANamesAt w ∧ AsciiAt w ∧ OrbAt w
theorem all_of_laid {W : World} (h : laidMetH Tryd.prog laidL W) : TablesAt W := ⟨names_of_laid h, ascii_of_laid h, orb_of_laid h⟩
theorem TablesAt.below {w w' : World} (h : TablesAt w) (b : Below w.heap.size w w') : TablesAt w' := ⟨h.1.below b, h.2.1.below b, h.2.2.below b⟩
instance (t : ByteArray) : Decidable (Low t) := inferInstanceAs (Decidable (∀ j : Nat, j < t.size → 97 ≤ (t.get! j).toNat ∧ (t.get! j).toNat ≤ 122 ∧ (t.get! j).toNat ≠ 107))
/-- EqualFold of any text, and a kind's name. -/
theorem folds_all (s : ByteArray) (w : World) (hs : s.size ≤ 100) (hA : AsciiAt w) (hO : OrbAt w) : Folds s w := by
  by_cases ha : Asc s
  · exact folds_asc s w hs ha
  · obtain ⟨j, hjs, hjb⟩ : ∃ j, ∃ h : j < s.size, 128 ≤ (s[j]'h).toNat := by
      apply Classical.byContradiction
      intro hno
      refine ha (fun j h => Classical.byContradiction fun hb => hno ⟨j, h, Nat.le_of_not_lt hb⟩)
    clear ha
    intro k W h1 h2 hz hB
    have q : k = 1 ∨ k = 2 ∨ k = 3 ∨ k = 4 ∨ k = 5 ∨ k = 6 ∨ k = 7 := by omega
    have hlow : Low (nmA (k : Int)) := by
      rcases q with rfl | rfl | rfl | rfl | rfl | rfl | rfl <;> decide
    have hjn : j < (nmA (k : Int)).size := by omega
    have hne : upper s ≠ upper (nmA (k : Int)) := by
      refine alike_not hjs hjn ?_
      have h3 := hlow j hjn
      rw [get_is _ j hjn] at h3
      unfold grN
      split <;> split <;> omega
    refine (fold_wide s _ W (hA.below hB) (hO.below hB) hs hz hlow ⟨j, hjs, hjb⟩).mono ?_
    rintro e w' ⟨rfl, b⟩
    exact ⟨by rw [decide_eq_false hne], b⟩

theorem below_boxT {B : Nat} {W W5 : World} {q : Nat} {o : Obj} (g : Below B W W5) (hB : q < B) (hq : W.heap[q]? = some o) : W5.heap[q]? = some o := by
  rw [g.block q hB]; exact hq

set_option maxRecDepth 100000 in
set_option maxHeartbeats 8000000 in
theorem walk0 (k : Int) (s : ByteArray) (x0 x1 x2 : Int) (w : World) (h : TablesAt w) :
    Calls Tryd.prog 3 #[.int .i64 k, .string s, .agg #[.int .i64 x0, .int .i64 x1, .int .i64 x2]] w fun e w' => e = .returned (.bool true) ∧ Below w.heap.size w w' := by
  have H := Lib.hid h
  have B0 := (Below.refl w.heap.size w).alloc (Nat.le_refl _) (.cells #[.int .i64 x0, .int .i64 x1, .int .i64 x2] 22)
  have hn0 := heap_new w (.cells #[.int .i64 x0, .int .i64 x1, .int .i64 x2] 22)
  have s0 : w.heap.size < (w.alloc (.cells #[.int .i64 x0, .int .i64 x1, .int .i64 x2] 22)).heap.size := by simp
  clear h
  by_cases hl : 100 < s.size
  · have hl' : (100 : Int) < (s.size : Int) := by omega
    go_enter Tryd.func3, Tryd.ntmps3
    go_wp2_with fail
    refine (aknown_any _ (H.out.below B0).1).mono ?_
    rintro e W2 ⟨rfl, b2⟩
    have B2 := B0.trans (b2.mono B0.size)
    go_wp2
    go_ret
    exact ⟨rfl, B2⟩
  · have hl' : ¬ (100 : Int) < (s.size : Int) := by omega
    obtain ⟨nm, hnm⟩ : ∃ nm, nmA k = nm := ⟨_, rfl⟩
    have HN := Lib.hid hnm
    obtain ⟨r, hr⟩ : ∃ r, decide (kok k) = r := ⟨_, rfl⟩
    have HR := Lib.hid hr
    have HRN := Lib.hid (show (nm.toList = [] ↔ r = false) from by rw [← hnm, nmA_empty, ← hr, decide_eq_false_iff_not])
    clear hnm hr
    obtain ⟨pk, hpk⟩ : ∃ pk, parseK s = pk := ⟨_, rfl⟩
    have HPK := Lib.hid hpk
    clear hpk
    obtain ⟨p1, p2⟩ := pk
    go_enter Tryd.func3, Tryd.ntmps3
    go_wp2_with fail
    generalize w.alloc (.cells #[.int .i64 x0, .int .i64 x1, .int .i64 x2] 22) = W1 at *
    have H1 := Lib.hid (H.out.below B0)
    generalize hq : w.heap.size = q at *
    have HQ := Lib.hid hq
    clear hq
    refine (aparse_any s W1 H1.out.1 (by omega) (folds_all s W1 (by omega) H1.out.2.1 H1.out.2.2)).mono ?_
    rintro e W2 ⟨rfl, b2⟩
    rw [HPK.out]
    have B2 := B0.trans (b2.mono (by omega))
    have H2 := Lib.hid (H1.out.below b2)
    have hn2 := below_boxT b2 s0 hn0
    have s2 := b2.size
    clear b2 B0 hn0
    unfold two
    go_wp2_with fail
    refine (arparse_any s W2 (by omega)).mono ?_
    rintro e W3 ⟨rfl, b3⟩
    rw [HPK.out]
    have B3 := B2.trans (b3.mono (by omega))
    have H3 := Lib.hid (H2.out.below b3)
    have hn3 := below_boxT b3 (by omega) hn2
    have s3 := b3.size
    clear b3 B2 hn2
    unfold two
    have t1 : (p1 == p1) = true := beq_self_eq_true p1
    have t2 : (p2 == p2) = true := beq_self_eq_true p2
    have t3 : (nm.toList == nm.toList) = true := by simp
    obtain ⟨st, hst⟩ : ∃ st, startB x0 x1 x2 = st := ⟨_, rfl⟩
    obtain ⟨en, hen⟩ : ∃ en, endB x0 x1 x2 = en := ⟨_, rfl⟩
    have t4 : (st == st) = true := beq_self_eq_true st
    have t5 : (en == en) = true := beq_self_eq_true en
    have HST := Lib.hid hst
    have HEN := Lib.hid hen
    clear hst hen
    have c0 : W3.cell? ⟨q, 0, none⟩ = some (.int .i64 x0) := by rw [cell_of hn3]; rfl
    have c1 : W3.cell? ⟨q, 1, none⟩ = some (.int .i64 x1) := by rw [cell_of hn3]; rfl
    have c2 : W3.cell? ⟨q, 2, none⟩ = some (.int .i64 x2) := by rw [cell_of hn3]; rfl
    have HC := Lib.hid (show ∀ W, Below W3.heap.size W3 W → W.cell? ⟨q, 0, none⟩ = some (.int .i64 x0) ∧ W.cell? ⟨q, 1, none⟩ = some (.int .i64 x1) ∧ W.cell? ⟨q, 2, none⟩ = some (.int .i64 x2) from fun W hW => by
      have hq3 : q < W3.heap.size := by omega
      exact ⟨by rw [hW.cell hq3]; exact c0, by rw [hW.cell hq3]; exact c1, by rw [hW.cell hq3]; exact c2⟩)
    have HNA := Lib.hid (show ∀ W, Below W3.heap.size W3 W → ANamesAt W from fun W hW => (H3.out.below hW).1)
    have BD := Lib.hid ((Below.refl W3.heap.size W3).drew)
    have t6 : nm.toList = [] ↔ r = false := HRN.out
    have t7 : nm.toList.isEmpty = !r := by
      cases r
      · simpa using t6
      · simpa using t6
    have t8 : (r == r) = true := beq_self_eq_true r
    go_wp2_with fail
    go_region_held3 (fun w' => w'.cell? ⟨q, 0, none⟩ = some (.int .i64 x0) ∧ w'.cell? ⟨q, 1, none⟩ = some (.int .i64 x1) ∧ w'.cell? ⟨q, 2, none⟩ = some (.int .i64 x2))
      (first
        | exact HC.out _ B7.out
        | exact HC.out _ B6.out
        | exact HC.out _ B5.out
        | exact HC.out _ BD.out
        | go_keep
        | fail)
      (first
        | (go_at_call 7
           (with_reducible refine (aright_any k _).mono ?_)
           rintro e w9 ⟨rfl, rfl⟩
           rw [HR.out])
        | (go_at_call 8
           have hh := B5.out
           (with_reducible refine (arname_any k _).mono ?_)
           rintro e W6 ⟨rfl, b6⟩
           rw [HN.out]
           have B6 := Lib.hid (B5.out.trans (b6.mono B5.out.size))
           clear b6 hh)
        | (go_at_call 8
           (with_reducible refine (arname_any k _).mono ?_)
           rintro e W5 ⟨rfl, b5⟩
           rw [HN.out]
           have B5 := Lib.hid (BD.out.trans (b5.mono BD.out.size))
           clear b5)
        | (go_at_call 9
           (with_reducible refine (aname_any k _ (HNA.out _ B5.out)).mono ?_)
           rintro e w9 ⟨rfl, rfl⟩
           rw [HN.out])
        | (go_at_call 10
           (with_reducible refine (start_any x0 x1 x2 _).mono ?_)
           rintro e w9 ⟨rfl, rfl⟩
           rw [HST.out])
        | (go_at_call 11
           (with_reducible refine (rstart_any x0 x1 x2 _).mono ?_)
           rintro e w9 ⟨rfl, rfl⟩
           rw [HST.out])
        | (go_at_call 12
           (with_reducible refine (end_any x0 x1 x2 _).mono ?_)
           rintro e w9 ⟨rfl, rfl⟩
           rw [HEN.out])
        | (go_at_call 13
           (with_reducible refine (rend_any x0 x1 x2 _).mono ?_)
           rintro e w9 ⟨rfl, rfl⟩
           rw [HEN.out])
        | (go_at_call 4
           (with_reducible refine (aknown_any _ (HNA.out _ B6.out)).mono ?_)
           rintro e W7 ⟨rfl, b7⟩
           have B7 := Lib.hid (B6.out.trans (b7.mono B6.out.size))
           clear b7)
        | fail)
    all_goals
      go_wp2
      go_ret
      exact ⟨rfl, by rw [HQ.out]; exact B3.trans (B7.out.mono (by omega))⟩

theorem walk (a0 : Int) (a1 : ByteArray) (a2 : Int × Int × Int) (w : World) (h : TablesAt w) (w0 : (Lit.int .i64 a0).wf = true) (w1 : a1.size ≤ maxLen) (w2 : in64 a2.1 ∧ in64 a2.2.1 ∧ in64 a2.2.2) :
    Calls Tryd.prog 3 #[.int .i64 a0, .string a1, .agg #[.int .i64 a2.1, .int .i64 a2.2.1, .int .i64 a2.2.2]] w fun e w' => e = .returned (.bool true) ∧ Below w.heap.size w w' := walk0 a0 a1 a2.1 a2.2.1 a2.2.2 w h

set_option maxRecDepth 100000 in
theorem lifted (os : Os) (started : os.Started) (H : Type) (enc : TypeId × Value → H) :
    ReturnsInHanded {} Tryd.checked os 3 .any (fun w args => (Rows.aggTellsSpec.pre enc Tryd.prog Tryd.f3 [] false w args ∧ laidMetH Tryd.prog laidL w) ∧ sizedMet enc Tryd.prog Tryd.f3 (OpenSpec.ofChange Rows.aggTellsSpec) false w args)
      (Rows.aggTellsSpec.post enc Tryd.prog Tryd.f3 false true false false) := by
  refine returnsInHanded_of_change_and (C := Tryd.checked) (X := fun w _ => laidMetH Tryd.prog laidL w) (fun _ _ _ hh h => h.of_heap hh) own started (by kernel_rfl) Tryd.func3
    (ChangeSpec.witness_shaped (enc := enc) (C := Tryd.checked) (os := os) (X := fun w _ => laidMetH Tryd.prog laidL w) false (World.laidAll Tryd.prog os laidL) #[.int .i64 0, .string ByteArray.empty, .agg #[.int .i64 0, .int .i64 0, .int .i64 0]] 8 (World.laidAll_os _ _ _) (door_shape os _) (by kernel_rfl) (by kernel_rfl) (by kernel_rfl) (door_met os _)) ?_
  intro W base args ds gs before hval0 hW _ _ hL _
  have hval : ∀ (j : Nat) t v, Tryd.f3.params[j]? = some t → args[j]? = some v → Value.okWide Tryd.prog W .any base t v := hval0
  have hW' := hW
  obtain ⟨p, q, hA0, hV, rfl, hfz, hnd⟩ := hW
  have hA : DataW.TrodAll enc Tryd.prog W 0 (fun _ => true) true Tryd.f3.params.toList args.toList ds p := hA0
  rw [Tryd.params3] at hA hval
  obtain ⟨v0, vs0, d0, ds0, p0, q0, hargs, rfl, rfl, h0, r0⟩ := trodAll_cons hA
  obtain ⟨v1, vs1, d1, ds1, p1, q1, rfl, rfl, rfl, h1, r1⟩ := trodAll_cons r0
  obtain ⟨v2, vs2, d2, ds2, p2, q2, rfl, rfl, rfl, h2, r2⟩ := trodAll_cons r1
  obtain ⟨rfl, rfl, rfl⟩ := trodAll_nil r2
  obtain rfl : args = #[v0, v1, v2] := by cases args; simp_all
  obtain ⟨rfl, rfl⟩ := trodVars_none hV
  obtain ⟨a0, rfl, rfl, rfl, w0⟩ := open_int Tryd.underlying3 (hval 0 3 v0 rfl rfl) h0
  obtain ⟨a1, rfl, rfl, rfl, w1⟩ := open_string Tryd.underlying9 (hval 1 9 v1 rfl rfl) h1
  have k2 := h2
  have lt2 : ∀ x ∈ p2, x.block < W.heap.size := by obtain ⟨m, hm⟩ := k2; exact DataW.trod_lt m _ _ _ hm
  obtain ⟨a2, rfl, w2⟩ := open_arr3 (hval 2 22 v2 rfl rfl) h2
  clear hA0 hval0
  refine (walk a0 a1 a2 W (all_of_laid hL) w0 w1 w2).mono fun e W' ⟨he, bel⟩ => ?_
  subst he
  exact ⟨_, rfl, _, _, _, [], _, [], hW', trodAll_mk1 (shut_bool Tryd.underlying4 _), (trodAll_cons_mk (shut_int Tryd.underlying3 w0) (trodAll_cons_mk (shut_string Tryd.underlying9 w1) (trodAll_cons_mk (Below.trod laidOut (by kernel_rfl) (of_decide_eq_true (by kernel_rfl)) k2 bel lt2) trodAll_mk0))), rfl, bel.frame _, fun h => by cases h⟩

theorem over : Rows.aggTellsRow.holds Tryd.pinned (OpenSpec.ofChange Rows.aggTellsSpec) :=
  OpenClaim.holds_of_wide 3 Tryd.f3 rfl rfl rfl rfl rfl rfl rfl ⟨rfl, rfl, rfl, rfl, rfl⟩ rfl rfl rfl rfl rfl (by kernel_rfl) Tryd.func3 (by kernel_rfl)
    (of_decide_eq_true (by kernel_rfl)) (by unfold Func.isWrapper; first | (rw [if_pos (by decide +kernel)]; kernel_rfl) | (rw [if_neg (by decide +kernel)]; exact ⟨rfl, rfl⟩))
    (fun os started H enc _ => lifted os started H enc)

theorem proved : Rows.AggTellsCardSaid :=
  Claim7.holds_tied_plain_at .later [] Rows.aggTellsCard.laidKinds true Rows.aggTellsCard.stood.harness false
    over (fun _ h => by cases h) (by kernel_rfl) (fun _ h => by cases h) aggTells_row_tie rfl ⟨rfl, rfl⟩ (by kernel_rfl) rfl
    (fun f fn hf hfn => by
      obtain rfl : f = 3 := Option.some.inj ((show Tryd.prog.funcNamed "tachograph/tachographlaw06.AggTells" = some 3 by kernel_rfl).symm.trans hf) |>.symm
      obtain rfl : fn = Tryd.f3 := (Option.some.inj (Tryd.func3.symm.trans hfn)).symm
      exact ⟨by kernel_rfl, fun j t ht => by
        rw [Tryd.params3] at ht
        have hm : t ∈ [3, 9, 22] := by simpa using Array.mem_of_getElem? ht
        have hall : ([3, 9, 22].all fun u => !Tryd.prog.wantsStandIn u) = true := by kernel_rfl
        exact (show Tryd.prog.wantsStandIn t = false by simpa using List.all_eq_true.1 hall t hm)⟩)
    (by kernel_rfl)
end aggTells
theorem aggTells_holds : Rows.AggTellsCardSaid := aggTells.proved
#print axioms aggTells_holds
end Go.Proofs.YtojnalpmibpchaaDoor
