/-
  Contract of filter.Match; slices.IndexFunc of labels by name.
-/
import Derived.Test.YtifjbbiphekmmaaGreatDoorFShelf2
import Derived.Test.YtifjbbiphekmmaaGreatDoorFMem
import Derived.Test.YtifjbbiphekmmaaGreatDoorIHas
import Derived.Test.YtifjbbiphekmmaaGreatDoorEHas
namespace Go.Proofs.YtifjbbiphekmmaaGreatDoor
open Go.RowKit Go.Shelf Go.Lib
set_option linter.unusedVariables false
set_option linter.unusedSimpArgs false

/-- Where the first label of the name stands. -/
theorem idx_look (l : List Lb) (nm : Tx) : (Lib.idxBy (fun _ y => decide (y.1 = nm)) l default = -1 ∧ look l nm = none) ∨ ∃ i, i < l.length ∧ Lib.idxBy (fun _ y => decide (y.1 = nm)) l default = (i : Int) ∧ look l nm = some (lV l i) := by
  have gen : ∀ (l : List Lb) (k : Nat), (Lib.idxByFrom (fun _ y => decide (y.1 = nm)) (default : Lb) l k = -1 ∧ look l nm = none) ∨ ∃ i, i < l.length ∧ Lib.idxByFrom (fun _ y => decide (y.1 = nm)) (default : Lb) l k = ((k + i : Nat) : Int) ∧ look l nm = some (lV l i) := by
    intro l
    induction l with
    | nil => intro k; exact .inl ⟨rfl, rfl⟩
    | cons x r ih =>
      intro k
      unfold Lib.idxByFrom look
      by_cases h : x.1 = nm
      · right
        refine ⟨0, by simp, ?_, ?_⟩
        · simp [h]
        · rw [if_pos h]; simp [lV]
      · rcases ih (k + 1) with ⟨e1, e2⟩ | ⟨i, hi, e1, e2⟩
        · left
          exact ⟨by rw [if_neg (by simp [h])]; exact e1, by rw [if_neg h]; exact e2⟩
        · right
          refine ⟨i + 1, by simp; omega, ?_, ?_⟩
          · rw [if_neg (by simp [h]), e1]; omega
          · rw [if_neg h, e2]; simp [lV]
  have := gen l 0
  simpa [Lib.idxBy] using this

theorem predM (nm : Tx) (B : Nat) (w : World) (hB : B < w.heap.size) (hcell : w.cell? ⟨B, 0, none⟩ = some (.string (bs nm))) :
    PredBelow Tryz.prog 40 #[.pointer (some ⟨B, 0, none⟩)] (fun x => .agg (encLb x).toArray) (fun x => decide (x.1 = nm)) w := fun W x hb => by
  have hc : W.cell? ⟨B, 0, none⟩ = some (.string (bs nm)) := (hb.cell (p := ⟨B, 0, none⟩) hB).trans hcell
  have hBW : B < W.heap.size := Nat.lt_of_lt_of_le hB hb.size
  have hne : B ≠ W.heap.size := by omega
  have he := eq_bs x.1 nm
  have h2 : (W.alloc (.cells #[.string (bs x.1), .string (bs x.2)] 69)).cell? ⟨B, 0, none⟩ = some (.string (bs nm)) := Trn.cell (F := fun _ => False) (.of ((Below.refl _ W).alloc (Nat.le_refl _) _)) hc
  have h3 : BoxL (W.alloc (.cells #[.string (bs x.1), .string (bs x.2)] 69)) W.heap.size x.1 x.2 := heap_new W _
  have h4 := h3.x0
  show Calls Tryz.prog 40 #[.agg #[.string (bs x.1), .string (bs x.2)], .pointer (some ⟨B, 0, none⟩)] W _
  go_enter Tryz.func40, Tryz.ntmps40
  go_wp2
  go_ret
  exact ⟨ret_bool (by first | rfl | exact he), hb.alloc hb.size _⟩

theorem idxl_any (a : Option Addr) (n c : Nat) (l : List Lb) (nm : Tx) (B : Nat) (w : World) (h : LbAt w a n c l) (hB : B < w.heap.size) (hcell : w.cell? ⟨B, 0, none⟩ = some (.string (bs nm))) :
    Calls Tryz.prog 39 #[.slice a n c, .func (.func 40) #[] #[.pointer (some ⟨B, 0, none⟩)]] w fun e w' => e = .returned (.int .i64 (Lib.idxBy (fun _ y => decide (y.1 = nm)) l default)) ∧ Below w.heap.size w w' := by
  have hl := h.1
  have h63 := h.2.2.1
  have hk := h
  obtain ⟨_, _, _, h5⟩ := h
  rcases h5 with h0 | ⟨b, off, rfl, hlt, hc⟩
  · subst h0
    have : l = [] := List.eq_nil_of_length_eq_zero hl
    subst this
    clear hk hcell hB hl h63
    go_enter Tryz.func39, Tryz.ntmps39
    go_wp2
    go_loopw [8] (fun i wr => i = .int .i64 0 ∧ w = wr) (fun _ _ => 0)
    case atStart => exact ⟨rfl, rfl⟩
    case round =>
      obtain ⟨rfl, rfl⟩ := hrel
      go_wp2
      go_ret
      exact ⟨rfl, Below.refl _ _⟩
  · have eg : ∀ args w, (callFunc 40 args).run Tryz.prog w = .ok (.enter 40 args) w := enters_of Tryz.func40 (by kernel_rfl) rfl
    have hcon := AnyQ.slices_IndexFunc (P := Tryz.prog) (ρ := sh_laysContainsLb_ren) { sh_laysContainsLb with } 2 Tryz.isAgg69 Tryz.sizeOf69 encLb (fun _ => rfl) (fun x => decide (x.1 = nm)) 40 #[.pointer (some ⟨B, 0, none⟩)] eg b off n c l w
      (predM nm B w hB hcell) (by omega) h63 hlt (fun j hj i v hi => by
        obtain ⟨c0, c1⟩ := hc j (by omega)
        rw [lb_bang hj] at hi
        match i, hi with
        | 0, hi => simp [encLb] at hi; rw [← hi]; exact c0
        | 1, hi => simp [encLb] at hi; rw [← hi]; exact c1
        | i + 2, hi => simp [encLb] at hi)
    rw [List.take_of_length_le (by omega)] at hcon
    exact hcon

set_option maxHeartbeats 2000000 in
theorem match10_any (e : TmT) (la : Option Addr) (ln lc : Nat) (L : List Lb) (w : World) (h : TmOk w e) (hl : LbAt w la ln lc L) :
    Calls Tryz.prog 20 #[tmV e, .slice la ln lc] w fun r w' => r = .returned (.bool (matchT e.trm L)) ∧ Below w.heap.size w w' := by
  obtain ⟨nm, ng, a, n, c, l⟩ := e
  have HS := Lib.hid (show TxAt w a n c l from h)
  have HLB := Lib.hid hl
  have hlen : l.length = n := h.1
  have hll : L.length = ln := hl.1
  have h63 := h.2.2.1
  have hl63 := hl.2.2.1
  clear h
  unfold tmV
  simp only
  have X0 := Lib.hid (BoxT.new 24 w ⟨nm, ng, a, n, c, l⟩)
  have B0 := Lib.hid ((Below.refl w.heap.size w).alloc (Nat.le_refl _) (.cells #[.string (bs nm), .bool ng, .slice a n c] 24))
  simp only at X0
  have HC := Lib.hid (idxl_any la ln lc L nm w.heap.size _ (HLB.out.keep B0.out) X0.out.lt X0.out.x0)
  rcases idx_look L nm with ⟨i1, i2⟩ | ⟨i, hi, i1, i2⟩
  · rw [i1] at HC
    have HM : Hid (matchT (nm, ng, l) L = (ng == !l.isEmpty)) := Lib.hid (by unfold matchT; rw [i2])
    clear i1 i2
    by_cases h0 : n = 0
    · have HL := Lib.hid (show l.isEmpty = true by rw [List.isEmpty_iff]; exact List.eq_nil_of_length_eq_zero (by omega))
      have hz : ((n : Int) == 0) = true := beq_iff_eq.2 (by omega)
      clear h0 hlen hll
      cases ng
      all_goals
        go_enter Tryz.func20, Tryz.ntmps20
        go_wp2_with fail
        refine HC.out.mono ?_
        rintro e w1 ⟨rfl, hb⟩
        have X1 := Lib.hid (X0.out.keep hb)
        have B1 := Lib.hid (B0.out.trans (hb.mono B0.out.size))
        clear X0 B0 hb HC
        have x1 := X1.out.x1
        have x2 := X1.out.x2
        go_wp2
        go_ret
        exact ⟨ret_bool (by show _ = matchT (nm, _, l) L; rw [HM.out, HL.out]; rfl), B1.out⟩
    · have HL := Lib.hid (show l.isEmpty = false by rw [List.isEmpty_eq_false_iff]; intro e; rw [e] at hlen; simp at hlen; omega)
      have hz : ((n : Int) == 0) = false := beq_eq_false_iff_ne.2 (by omega)
      clear h0 hlen hll
      cases ng
      all_goals
        go_enter Tryz.func20, Tryz.ntmps20
        go_wp2_with fail
        refine HC.out.mono ?_
        rintro e w1 ⟨rfl, hb⟩
        have X1 := Lib.hid (X0.out.keep hb)
        have B1 := Lib.hid (B0.out.trans (hb.mono B0.out.size))
        clear X0 B0 hb HC
        have x1 := X1.out.x1
        have x2 := X1.out.x2
        go_wp2_with fail
        go_quiet (fail)
        have y1 : ∀ q, (w1.drewN q).cell? ⟨w.heap.size, 1, none⟩ = _ := fun q => x1
        go_wp2
        go_ret
        exact ⟨ret_bool (by show _ = matchT (nm, _, l) L; rw [HM.out, HL.out]; rfl), B1.out.trans (Below.mono (Drew.bel ⟨_, rfl⟩) B1.out.size)⟩
  · rw [i1] at HC
    have HM : Hid (matchT (nm, ng, l) L = if l.isEmpty then ng else decide (lV L i ∈ l) != ng) := Lib.hid (by unfold matchT; rw [i2])
    clear i1 i2
    by_cases h0 : n = 0
    · have HL := Lib.hid (show l.isEmpty = true by rw [List.isEmpty_iff]; exact List.eq_nil_of_length_eq_zero (by omega))
      have hz : ((n : Int) == 0) = true := beq_iff_eq.2 (by omega)
      clear h0 hlen hll
      cases ng
      all_goals
        go_enter Tryz.func20, Tryz.ntmps20
        go_wp2_with fail
        refine HC.out.mono ?_
        rintro e w1 ⟨rfl, hb⟩
        have X1 := Lib.hid (X0.out.keep hb)
        have B1 := Lib.hid (B0.out.trans (hb.mono B0.out.size))
        clear X0 B0 hb HC
        have x1 := X1.out.x1
        have x2 := X1.out.x2
        go_wp2
        go_ret
        exact ⟨ret_bool (by show _ = matchT (nm, _, l) L; rw [HM.out, HL.out]; rfl), B1.out⟩
    · have HL := Lib.hid (show l.isEmpty = false by rw [List.isEmpty_eq_false_iff]; intro e; rw [e] at hlen; simp at hlen; omega)
      have hz : ((n : Int) == 0) = false := beq_eq_false_iff_ne.2 (by omega)
      have hin : i < ln := by omega
      clear h0 hlen
      obtain ⟨pb, po, rfl, hpb, y0, y1⟩ := HLB.out.at_ i hin
      cases ng
      all_goals
        go_enter Tryz.func20, Tryz.ntmps20
        go_wp2_with fail
        refine HC.out.mono ?_
        rintro e w1 ⟨rfl, hb⟩
        have X1 := Lib.hid (X0.out.keep hb)
        have B1 := Lib.hid (B0.out.trans (hb.mono B0.out.size))
        clear X0 B0 hb HC
        have x1 := X1.out.x1
        have x2 := X1.out.x2
        have y2 := (B1.out.cell (p := ⟨pb, po + i * 2 + 1, none⟩) hpb).trans y1
        have HQ := Lib.hid (fun q => contains8_any a n c l (lV L i) (w1.drewN q) (HS.out.keep (B1.out.trans (Below.mono (Drew.bel ⟨q, rfl⟩) B1.out.size))))
        generalize decide (lV L i ∈ l) = r at *
        generalize lV L i = vl at *
        go_wp2_with fail
        go_quiet (with_reducible exact quietL (HQ.out _))
        have z1 : ∀ q, (w1.drewN q).cell? ⟨w.heap.size, 1, none⟩ = _ := fun q => x1
        go_wp2
        go_ret
        exact ⟨ret_bool (by show _ = matchT (nm, _, l) L; rw [HM.out, HL.out]; cases r <;> rfl), B1.out.trans (Below.mono (Drew.bel ⟨_, rfl⟩) B1.out.size)⟩
end Go.Proofs.YtifjbbiphekmmaaGreatDoor
