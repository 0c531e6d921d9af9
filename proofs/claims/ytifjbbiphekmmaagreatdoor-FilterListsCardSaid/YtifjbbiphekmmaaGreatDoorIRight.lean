/-
  Contract of index.Right.
-/
import Derived.Test.YtifjbbiphekmmaaGreatDoorIHas
namespace Go.Proofs.YtifjbbiphekmmaaGreatDoor
open Go.RowKit
set_option linter.unusedVariables false
set_option linter.unusedSimpArgs false

theorem bel_drewN {B : Nat} {w W : World} (h : Below B w W) (n : Nat) : Below B w (W.drewN n) := ⟨h.os, h.tape, h.output, h.size, h.block⟩
theorem bel_drew {B : Nat} {w W : World} (h : Below B w W) : Below B w W.drew := ⟨h.os, h.tape, h.output, h.size, h.block⟩
def okUpto (l : List Lb) (j : Nat) : Prop := (∀ x ∈ l.take j, keyB x.1 ∧ keyB x.2) ∧ (keysL (l.take j)).Nodup
theorem take_snoc9 {l : List Lb} {j : Nat} (h : j < l.length) : l.take (j + 1) = l.take j ++ [(lN l j, lV l j)] := by rw [List.take_succ_eq_append_getElem h, lb_get h]
theorem okUpto_snoc {l : List Lb} {j : Nat} (h : j < l.length) (k : okUpto l j) (h1 : keyB (lN l j)) (h2 : keyB (lV l j)) (h3 : lN l j ∉ keysL (l.take j)) : okUpto l (j + 1) := by
  unfold okUpto
  rw [take_snoc9 h]
  refine ⟨fun x hx => ?_, ?_⟩
  · rcases List.mem_append.1 hx with hx | hx
    · exact k.1 x hx
    · rw [List.mem_singleton] at hx
      subst hx; exact ⟨h1, h2⟩
  · unfold keysL at *
    rw [List.map_append, List.nodup_append]
    refine ⟨k.2, by simp, fun a ha b hb e => ?_⟩
    simp only [List.map_cons, List.map_nil, List.mem_singleton] at hb
    subst hb; subst e; exact h3 ha
theorem not_right_key {l : List Lb} {j : Nat} (h : j < l.length) (h1 : ¬ (keyB (lN l j) ∧ keyB (lV l j))) : ¬ rightL l := fun hr => h1 (hr.2.1 _ (lb_mem h))
theorem not_right_dup {l : List Lb} {j : Nat} (h : j < l.length) (h1 : lN l j ∈ keysL (l.take j)) : ¬ rightL l := fun hr => by
  have hn := hr.2.2
  have hs : l = l.take (j + 1) ++ l.drop (j + 1) := (List.take_append_drop ..).symm
  rw [take_snoc9 h] at hs
  rw [hs] at hn
  unfold keysL at *
  rw [List.map_append, List.map_append] at hn
  have := (List.nodup_append.1 (List.nodup_append.1 hn).1).2.2 _ h1 (lN l j) (by simp)
  exact this rfl
theorem right_all {l : List Lb} (h : l.length ≤ 8) (k : okUpto l l.length) : rightL l := by
  unfold okUpto at k
  rw [List.take_length] at k
  exact ⟨h, k⟩
theorem run_lb_to (b off n c k : Nat) (h1 : k ≤ n) (h2 : n ≤ c) (h0 : 0 < n) (W : World) : (Instr.slice 25 (.slice (some ⟨b, off, none⟩) n c) none (some (.int .i64 (k : Int))) none).run Tryz.prog W = .ok (.slice (some ⟨b, off, none⟩) k c) W := by
  rw [run_slice_h W 25 _ _ _ (by kernel_rfl) .i64 (k : Int) (by omega) (by omega), size_lb]
  have : c ≠ 0 := by omega
  simp [Result.andThen, sliced, this, Addr.add]

set_option maxRecDepth 100000 in
set_option maxHeartbeats 4000000 in
theorem right9_any (a : Option Addr) (n c : Nat) (l : List Lb) (w : World) (h : LbAt w a n c l) :
    Calls Tryz.prog 57 #[.slice a n c] w fun e w' => e = .returned (.bool (decide (rightL l))) ∧ Below w.heap.size w w' := by
  have hln := h.1
  have hnc := h.2.1
  have h63 := h.2.2.1
  have HL := Lib.hid h
  clear h
  have HLN := Lib.hid hln
  clear hln
  by_cases hn : n ≤ 8
  · have hnz : ¬ (8 : Int) < (n : Int) := by omega
    have HZ := Lib.hid (show okUpto l 0 from ⟨by simp, by simp [keysL]⟩)
    go_enter Tryz.func57, Tryz.ntmps57
    go_wp2_with fail
    go_loopw [10] (fun vi wr => ∃ (j : Nat), vi = .int .i64 (j : Int) ∧ j ≤ n ∧ Hid (okUpto l j) ∧ Hid (Below w.heap.size w wr)) (fun vi _ => n - (intOf vi).toNat)
    case atStart => exact ⟨0, rfl, Nat.zero_le _, HZ, Lib.hid (Below.refl _ _)⟩
    case round =>
      obtain ⟨j, rfl, hj, HU, HB⟩ := hrel
      clear HZ
      by_cases hjn : j < n
      · have hjz : (j : Int) < (n : Int) := by omega
        have hj0 : (0 : Int) ≤ (j : Int) := by omega
        obtain ⟨pb, po, e1, hpb, x0, x1⟩ := HL.out.at_ j hjn
        rw [← HB.out.cell hpb] at x0 x1
        subst e1
        have hsl := fun W => run_lb_to pb po n c j hj hnc (by omega) W
        have hjl : j < l.length := by rw [HLN.out]; exact hjn
        have HSN := Lib.hid (fun h1 h2 h3 => okUpto_snoc hjl HU.out h1 h2 h3)
        have HN1 := Lib.hid (not_right_key hjl)
        have HN2 := Lib.hid (not_right_dup hjl)
        have hszw : w.heap.size ≤ wr.heap.size := HB.out.size
        have B2 := (Below.refl wr.heap.size wr).alloc (Nat.le_refl _) (.cells #[.string (bs (lN l j)), .string (bs (lV l j))] 69)
        have X2 := Lib.hid (show BoxL (wr.alloc (.cells #[.string (bs (lN l j)), .string (bs (lV l j))] 69)) wr.heap.size (lN l j) (lV l j) from heap_new wr _)
        have hs2 : (wr.alloc (.cells #[.string (bs (lN l j)), .string (bs (lV l j))] 69)).heap.size = wr.heap.size + 1 := by simp
        have T0 := Lib.hid (HL.out.keep HB.out |>.keep B2 |>.to_ j hj)
        have B3 := Lib.hid (HB.out.trans (B2.mono hszw))
        clear HU B2 HB
        generalize hk0 : l.take j = lj at *
        clear hk0 hjl
        generalize lN l j = nm at *
        generalize lV l j = vl at *
        go_wp2_with fail
        generalize wr.alloc (.cells #[.string (bs nm), .string (bs vl)] 69) = W2 at *
        generalize wr.heap.size = B at *
        have b0 := X2.out.x0
        have b1 := X2.out.x1
        have hpb2 : pb < W2.heap.size := by omega
        by_cases k1 : keyB nm
        · have hK1 := fun W => key_any nm W
          rw [decide_eq_true k1] at hK1
          have HK1 := Lib.hid hK1
          clear hK1
          by_cases k2 : keyB vl
          · have hK2 := fun W => key_any vl W
            rw [decide_eq_true k2] at hK2
            have HK2 := Lib.hid hK2
            have TD : Hid (LbAt W2.drew (some ⟨pb, po, none⟩) j c lj) := T0
            have HD := Lib.hid (hasName_any pb po j c lj nm W2.drew TD.out hpb2)
            clear hK2 x0 x1
            by_cases k3 : nm ∈ keysL lj
            · rw [decide_eq_true k3] at HD
              go_region_held3 (fun w' => w'.cell? ⟨B, 0, none⟩ = some (.string (bs nm)) ∧ w'.cell? ⟨B, 1, none⟩ = some (.string (bs vl)))
                (first
                  | exact ⟨d0.out, d1.out⟩
                  | exact ⟨b0, b1⟩
                  | go_keep)
                (first
                  | (go_at_call 36
                     (with_reducible refine (HK1.out _).mono ?_)
                     rintro e W6 ⟨rfl, rfl⟩)
                  | (go_at_call 36
                     (with_reducible refine (HK2.out _).mono ?_)
                     rintro e W6 ⟨rfl, rfl⟩)
                  | (go_at_call 83
                     (with_reducible refine HD.out.mono ?_)
                     rintro e W6 ⟨rfl, hb6⟩
                     have d0 := Lib.hid ((hb6.cell (p := ⟨B, 0, none⟩) (show B < W2.drew.heap.size from hs2 ▸ Nat.lt_succ_self B)).trans b0)
                     have d1 := Lib.hid ((hb6.cell (p := ⟨B, 1, none⟩) (show B < W2.drew.heap.size from hs2 ▸ Nat.lt_succ_self B)).trans b1))
                  | fail)
              go_wp2
              go_ret
              exact ⟨ret_bool (decide_eq_false (HN2.out k3)).symm, (bel_drew B3.out).trans (hb6.mono B3.out.size)⟩
            · rw [decide_eq_false k3] at HD
              go_region_held3 (fun w' => w'.cell? ⟨B, 0, none⟩ = some (.string (bs nm)) ∧ w'.cell? ⟨B, 1, none⟩ = some (.string (bs vl)))
                (first
                  | exact ⟨d0.out, d1.out⟩
                  | exact ⟨b0, b1⟩
                  | go_keep)
                (first
                  | (go_at_call 36
                     (with_reducible refine (HK1.out _).mono ?_)
                     rintro e W6 ⟨rfl, rfl⟩)
                  | (go_at_call 36
                     (with_reducible refine (HK2.out _).mono ?_)
                     rintro e W6 ⟨rfl, rfl⟩)
                  | (go_at_call 83
                     (with_reducible refine HD.out.mono ?_)
                     rintro e W6 ⟨rfl, hb6⟩
                     have d0 := Lib.hid ((hb6.cell (p := ⟨B, 0, none⟩) (show B < W2.drew.heap.size from hs2 ▸ Nat.lt_succ_self B)).trans b0)
                     have d1 := Lib.hid ((hb6.cell (p := ⟨B, 1, none⟩) (show B < W2.drew.heap.size from hs2 ▸ Nat.lt_succ_self B)).trans b1))
                  | fail)
              have B7 := Lib.hid ((bel_drew B3.out).trans (hb6.mono B3.out.size))
              have U7 := Lib.hid (HSN.out k1 k2 k3)
              clear d0 d1 b0 b1 hb6 HD TD T0 X2 B3
              go_wp2
              go_roundw
              case rel => exact ⟨j + 1, by go_num, by omega, U7, B7⟩
              case measure => simp [intOf]; omega
          · have hK2 := fun W => key_any vl W
            rw [decide_eq_false k2] at hK2
            have HK2 := Lib.hid hK2
            clear hK2 x0 x1
            go_quiet (first
              | with_reducible exact quietL (HK1.out _)
              | with_reducible exact quietL (HK2.out _))
            go_wp2
            go_ret
            exact ⟨ret_bool (decide_eq_false (HN1.out (fun h => k2 h.2))).symm, bel_drewN B3.out _⟩
        · have hK1 := fun W => key_any nm W
          rw [decide_eq_false k1] at hK1
          have HK1 := Lib.hid hK1
          clear hK1 x0 x1
          go_quiet (with_reducible exact quietL (HK1.out _))
          go_wp2
          go_ret
          exact ⟨ret_bool (decide_eq_false (HN1.out (fun h => k1 h.1))).symm, bel_drewN B3.out _⟩
      · have hjz : ¬ (j : Int) < (n : Int) := by omega
        obtain rfl : j = n := by omega
        go_wp2
        go_ret
        exact ⟨ret_bool (decide_eq_true (right_all (by rw [HLN.out]; exact hn) (by rw [HLN.out]; exact HU.out))).symm, HB.out⟩
  · have hnz : (8 : Int) < (n : Int) := by omega
    go_enter Tryz.func57, Tryz.ntmps57
    go_wp2
    go_ret
    exact ⟨ret_bool (decide_eq_false (fun hr => hn (by have := hr.1; rw [HLN.out] at this; exact this))).symm, Below.refl _ _⟩

end Go.Proofs.YtifjbbiphekmmaaGreatDoor
