/-
  Contracts of slices.Clone of labels, and of index.sorted: labels by their names, in memory of the call's own.
-/
import Derived.Test.YtifjbbiphekmmaaGreatDoorIHas
import Derived.Test.YtifjbbiphekmmaaGreatDoorERead
namespace Go.Proofs.YtifjbbiphekmmaaGreatDoor
open Go.RowKit Go.Shelf Go.Lib Go.Sort
set_option linter.unusedVariables false
set_option linter.unusedSimpArgs false

theorem lnew_row (w : World) : LRow (w.alloc (.cells #[] 69)) w.heap.size (.slice (some ⟨w.heap.size, 0, none⟩) 0 0) [] :=
  World.ownsRow_made w #[] 0 (Nat.le_refl _) (Nat.zero_le _) (by simp)

set_option maxRecDepth 100000 in
set_option maxHeartbeats 2000000 in
/-- slices.Clone. -/
theorem lclone_any (a : Option Addr) (n c : Nat) (l : List Lb) (w : World) (h : LbAt w a n c l) (hn : n ≤ 1000) :
    Calls Tryz.prog 55 #[.slice a n c] w fun e w' => ∃ v, e = .returned v ∧ LRow w' w.heap.size v l ∧ Below w.heap.size w w' := by
  have heq := fun (W : World) (a : Option Addr) (n c n' c' : Nat) => Lib.run_eql_slice_nil (P := Tryz.prog) W 25 _ a n c n' c' Tryz.underlying25
  cases a with
  | none =>
    have h0 : n = 0 := by
      rcases h.2.2.2 with e | ⟨b, off, e, _⟩
      · exact e
      · cases e
    have e0 : l = [] := List.eq_nil_of_length_eq_zero (by rw [h.1]; exact h0)
    subst e0
    clear h
    go_enter Tryz.func55, Tryz.ntmps55
    go_wp2
    go_ret
    exact ⟨_, rfl, LRow.nil _ _, Below.refl _ _⟩
  | some ad =>
    have B1 := (Below.refl w.heap.size w).alloc (Nat.le_refl _) (.cells #[] 69)
    have R1 := Lib.hid (lnew_row w)
    have H1 := Lib.hid (h.keep B1)
    have HB := Lib.hid B1
    clear h B1
    go_enter Tryz.func55, Tryz.ntmps55
    go_wp2_with (at_builtin; refine wpList_append_lb rfl _ _ rfl w.heap.size _ [] rfl R1.out _ n c l rfl H1.out (by simp; omega) HB.out.size ?_; intro v2 w2 R2 g2)
    go_ret
    exact ⟨v2, rfl, R2, LRow.bel HB.out HB.out.size R1.out (Nat.le_refl _) g2⟩

/-! The order of labels. -/
set_option maxRecDepth 100000 in
set_option maxHeartbeats 2000000 in
theorem cmpLb (x y : Lb) (W : World) : Calls Tryz.prog 88 #[.agg #[.string (bs x.1), .string (bs x.2)], .agg #[.string (bs y.1), .string (bs y.2)]] W fun e w' => e = .returned (.int .i64 (cmpL x.1 y.1)) ∧ ∃ q os', w' = grow (W.drewN q) os' := by
  have HC := Lib.hid (fun W' => cmp_any x.1 y.1 W')
  generalize cmpL x.1 y.1 = r at HC ⊢
  have B1 := (Below.refl W.heap.size W).alloc (Nat.le_refl _) (.cells #[.string (bs x.1), .string (bs x.2)] 69)
  have X1 : BoxL (W.alloc (.cells #[.string (bs x.1), .string (bs x.2)] 69)) W.heap.size x.1 x.2 := heap_new W _
  have X2 : BoxL ((W.alloc (.cells #[.string (bs x.1), .string (bs x.2)] 69)).alloc (.cells #[.string (bs y.1), .string (bs y.2)] 69)) (W.heap.size + 1) y.1 y.2 := by
    have := heap_new (W.alloc (.cells #[.string (bs x.1), .string (bs x.2)] 69)) (.cells #[.string (bs y.1), .string (bs y.2)] 69)
    rw [World.size_alloc] at this
    exact this
  have X1' := X1.trn (F := fun _ => False) (.of ((Below.refl _ _).alloc (Nat.le_refl _) (.cells #[.string (bs y.1), .string (bs y.2)] 69)))
  have x0 := X1'.x0
  have y0 := X2.x0
  clear X1 B1
  go_enter Tryz.func88, Tryz.ntmps88
  go_wp2_with fail
  refine (HC.out _).mono ?_
  rintro e w' ⟨rfl, rfl⟩
  go_wp2
  go_ret
  exact ⟨rfl, 0, _, by rw [alloc_eq_grow, alloc_eq_grow, grow_grow]; rfl⟩
def cfLb (x y : Lb) : Int := cmpL x.1 y.1
theorem ltLb (x y : Lb) : ltOf cfLb x y = decide (x.1 < y.1) := by
  unfold ltOf cfLb cmpL
  by_cases h1 : x.1 < y.1
  · simp [h1]
  · by_cases h2 : y.1 < x.1 <;> simp [h1, h2]
theorem swoLb : SWO (ltOf cfLb) where
  irrefl x := by rw [ltLb]; simp [lt_no]
  trans x y z h1 h2 := by
    rw [ltLb] at *
    exact decide_eq_true (lt_tr (of_decide_eq_true h1) (of_decide_eq_true h2))
  ntrans x y z h1 h2 := by
    rw [ltLb] at *
    have a := of_decide_eq_false h1
    have b := of_decide_eq_false h2
    refine decide_eq_false (fun h => ?_)
    rcases lt_3 x.1 y.1 with q | q | q
    · exact a q
    · rw [q] at h; exact b h
    · exact b (lt_tr q h)

/-- A row of labels, as the sort wants it. -/
theorem holdsK_of {w : World} {base g cap : Nat} {l : List Lb} (h : LRow w base (.slice (some ⟨g, 0, none⟩) l.length cap) l) : HoldsK encLb 2 w g 0 l.toArray ∧ base ≤ g ∧ g < w.heap.size := by
  rcases h.2 with ⟨e, _⟩ | ⟨g', cap', cur, e, hb, hg, hle, hmx, hsz, htk⟩
  · cases e
  · simp only [Value.slice.injEq, Option.some.injEq, Addr.mk.injEq] at e
    obtain ⟨⟨rfl, _, _⟩, _, rfl⟩ := e
    refine ⟨fun t ht => ?_, hb, heap_lt hg⟩
    rw [size_flatK] at ht
    simp only [List.size_toArray] at ht
    have hcell : ∀ j u, (lbCells l)[j]? = some u → w.cell? ⟨g, j, none⟩ = some u := fun j u hu => by
      have hjl : j < l.length * 2 := by have := (List.getElem?_eq_some_iff.1 hu).1; rw [lbCells_length] at this; exact this
      rw [cell_of hg]
      rw [← htk, List.getElem?_take, if_pos hjl, Array.getElem?_toList] at hu
      exact hu
    refine ⟨?_, frozen_of hg⟩
    rw [get_flatK encLb 2 l.toArray t (by simpa using ht), Nat.zero_add]
    have hd : (l.toArray)[t / 2]! = (lN l (t / 2), lV l (t / 2)) := by
      have : t / 2 < l.length := by omega
      rw [← lb_bang this]; simp
    rw [hd]
    obtain ⟨e0, e1⟩ := lbCells_get l (t / 2) (by omega)
    rcases Nat.mod_two_eq_zero_or_one t with m | m
    · have et : t = t / 2 * 2 := by omega
      rw [m]
      conv => lhs; rw [et]
      rw [hcell _ _ e0]; rfl
    · have et : t = t / 2 * 2 + 1 := by omega
      rw [m]
      conv => lhs; rw [et]
      rw [hcell _ _ e1]; rfl
theorem lb_of_holdsK {w : World} {g cap : Nat} {l : List Lb} (h : HoldsK encLb 2 w g 0 l.toArray) (hg : g < w.heap.size) (hc : l.length ≤ cap) (hn : l.length ≤ 1000) : LbAt w (some ⟨g, 0, none⟩) l.length cap l := by
  refine ⟨rfl, hc, by omega, .inr ⟨g, 0, rfl, hg, fun i hi => ?_⟩⟩
  have hd : (l.toArray)[i]! = (lN l i, lV l i) := by rw [← lb_bang hi]; simp
  have h0 := (h (i * 2) (by rw [size_flatK]; simp; omega)).1
  have h1 := (h (i * 2 + 1) (by rw [size_flatK]; simp; omega)).1
  rw [get_flatK encLb 2 l.toArray _ (by simp; omega)] at h0 h1
  rw [show i * 2 / 2 = i from by omega, show i * 2 % 2 = 0 from by omega, hd] at h0
  rw [show (i * 2 + 1) / 2 = i from by omega, show (i * 2 + 1) % 2 = 1 from by omega, hd] at h1
  exact ⟨h0, h1⟩
theorem below_sortK {w0 w : World} {B g m : Nat} {d : Array Lb} {os : Array Obj} (h : RowKit.Below B w0 w) (hB : B ≤ w.heap.size) (hg : B ≤ g) : RowKit.Below B w0 (sortWorldK encLb 2 w g 0 m d os) := by
  refine ⟨h.os, h.tape, h.output, ?_, fun k hk => ?_⟩
  · have := h.size
    simp [sortWorldK, putRowK, putRow, mapBlock, Sort.ahead, grow]; omega
  · have hkw : k < w.heap.size := by omega
    rw [← h.block k hk]
    simp [sortWorldK, putRowK, putRow, mapBlock, Sort.ahead, grow, Array.getElem?_append, Array.getElem?_modify, show g ≠ k by omega, hkw, Array.getElem_modify]

/-- What slices.SortFunc makes of labels of different names. -/
theorem srt_of_sorted {l : List Lb} {d : Array Lb} (hn : (keysL l).Nodup) (hp : PermIn 0 l.toArray.size l.toArray d) (hs : SortedIn (ltOf cfLb) 0 l.toArray.size d) : d.toList = srt l := by
  obtain ⟨p1, _, p3⟩ := hp
  have e1 : d.toList.Perm l := by
    have a1 : (d.extract 0 l.toArray.size).toList = d.toList := by rw [← p1]; simp
    have a2 : (l.toArray.extract 0 l.toArray.size).toList = l := by simp
    rw [a1, a2] at p3; exact p3
  have hnd : (keysL d.toList).Nodup := (e1.map Prod.fst).nodup_iff.2 hn
  refine srt_of hn ?_ e1
  unfold SS keysL at *
  rw [List.pairwise_map, List.pairwise_iff_getElem]
  intro i j hi hj hij
  have hd := hs i j (Nat.zero_le _) hij (by rw [← p1]; simpa using hj)
  rw [ltLb] at hd
  have h1 := of_decide_eq_false hd
  have gi : d[i]! = d.toList[i] := by rw [getElem!_pos d i (by simpa using hi)]; simp
  have gj : d[j]! = d.toList[j] := by rw [getElem!_pos d j (by simpa using hj)]; simp
  rw [gi, gj] at h1
  rcases lt_3 d.toList[i].1 d.toList[j].1 with q | q | q
  · exact q
  · exfalso
    rw [List.Nodup, List.pairwise_map, List.pairwise_iff_getElem] at hnd
    exact hnd i j hi hj hij q
  · exact absurd q h1

set_option maxRecDepth 100000 in
set_option maxHeartbeats 2000000 in
theorem sorted9_any (a : Option Addr) (n c : Nat) (l : List Lb) (w : World) (h : LbAt w a n c l) (hn : n ≤ 1000) (hd : (keysL l).Nodup) :
    Calls Tryz.prog 60 #[.slice a n c] w fun e w' => ∃ a' c', e = .returned (.slice a' n c') ∧ LbAt w' a' n c' (srt l) ∧ RowKit.Below w.heap.size w w' := by
  have HL := Lib.hid (lclone_any a n c l w h hn)
  have HLN := Lib.hid h.1
  have HN := Lib.hid hd
  clear h hd
  have eg : ∀ args w, (callFunc 88 args).run Tryz.prog w = .ok (.enter 88 args) w := enters_of Tryz.func88 (by kernel_rfl) rfl
  by_cases h0 : n = 0
  · subst h0
    have e0 : l = [] := List.eq_nil_of_length_eq_zero HLN.out
    subst e0
    clear hn HN HLN
    go_enter Tryz.func60, Tryz.ntmps60
    go_wp2_with fail
    refine HL.out.mono ?_
    rintro e w1 ⟨v, rfl, R1, B1⟩
    obtain ⟨a1, c1, rfl, L1⟩ := R1.shape
    have HL1 := Lib.hid L1
    have HB := Lib.hid B1
    have HS := Lib.hid (show Calls Tryz.prog 87 #[.slice a1 0 c1, .func (.func 88) #[] #[]] w1 _ from AnyF.slices_SortFunc_none sh_laysSortLb a1 c1 (.func (.func 88) #[] #[]) w1)
    replace HL1 : Hid (LbAt w1 a1 0 c1 []) := HL1
    clear R1 B1 L1 HL
    rw [show ([] : List Lb).length = 0 from rfl]
    go_wp2_with fail
    refine HS.out.mono ?_
    rintro e w2 ⟨rfl, rfl⟩
    go_wp2
    go_ret
    exact ⟨a1, c1, rfl, HL1.out, HB.out⟩
  · go_enter Tryz.func60, Tryz.ntmps60
    go_wp2_with fail
    refine HL.out.mono ?_
    rintro e w1 ⟨v, rfl, R1, B1⟩
    obtain ⟨g, cap, rfl, hcap⟩ : ∃ g cap, v = .slice (some ⟨g, 0, none⟩) n cap ∧ n ≤ cap := by
      rcases R1.2 with ⟨_, e⟩ | ⟨g, cap, cur, e, _, _, hle, _⟩
      · exact absurd (by rw [← HLN.out]; exact e) h0
      · exact ⟨g, cap, by rw [e, HLN.out], by rw [← HLN.out]; exact hle⟩
    have R2 : LRow w1 w.heap.size (.slice (some ⟨g, 0, none⟩) l.length cap) l := by rw [HLN.out]; exact R1
    obtain ⟨hH, hb, hg⟩ := holdsK_of R2
    have hs1 : l.toArray.size = n := by simpa using HLN.out
    have hcon := AnyQ.slices_SortFunc sh_laysSortLb 2 Tryz.isAgg69 Tryz.sizeOf69 encLb (fun _ => rfl) (fun x v hv => by simp [encLb] at hv; rcases hv with rfl | rfl <;> rfl) cfLb swoLb 88 #[] g 0 cap l.toArray w1 eg
      (fun _ _ _ _ x y => cmpLb x y _) hH hg (by rw [hs1]; omega)
    rw [hs1] at hcon
    change Calls Tryz.prog 87 _ _ _ at hcon
    have HC := Lib.hid hcon
    have HE := Lib.hid (fun (d' : Array Lb) (m : Nat) (os : Array Obj) (hp : PermIn 0 n l.toArray d') (hs : SortedIn (ltOf cfLb) 0 n d') =>
      show LbAt (sortWorldK encLb 2 w1 g 0 m d' os) (some ⟨g, 0, none⟩) n cap (srt l) ∧ RowKit.Below w.heap.size w (sortWorldK encLb 2 w1 g 0 m d' os) from by
        have hse := srt_of_sorted (l := l) (d := d') HN.out (by rw [hs1]; exact hp) (by rw [hs1]; exact hs)
        have hds : d'.size = l.toArray.size := by rw [hs1, ← hs1]; exact hp.1
        have hK := holdsK_sortWorldK_c encLb 2 w1 g 0 l.toArray d' m os hH hg hds
        have hg2 : g < (sortWorldK encLb 2 w1 g 0 m d' os).heap.size := Nat.lt_of_lt_of_le hg (size_sortWorldK_c encLb 2 w1 g 0 m d' os)
        have hd2 : d' = (srt l).toArray := by rw [← hse]
        have hlen : (srt l).length = n := by rw [srt_len]; exact HLN.out
        refine ⟨?_, below_sortK B1 B1.size hb⟩
        rw [hd2] at hK
        have := lb_of_holdsK (cap := cap) hK (by rw [← hd2]; exact hg2) (by rw [hlen]; exact hcap) (by rw [hlen]; exact hn)
        rw [hlen, ← hd2] at this
        exact this)
    clear R1 B1 R2 hH hcon HL hs1
    go_wp2_with fail
    refine HC.out.mono ?_
    rintro e w2 ⟨rfl, d', m, os, hp, hs, rfl⟩
    have HF := Lib.hid (HE.out d' m os hp hs)
    clear hp hs
    generalize sortWorldK encLb 2 w1 g 0 m d' os = W2 at *
    go_wp2
    go_ret
    exact ⟨_, cap, rfl, HF.out.1, HF.out.2⟩

end Go.Proofs.YtifjbbiphekmmaaGreatDoor
