/-
  Contracts of the graph's Gone; and of Drop and Gone of nil.
-/
import Derived.Test.YtlogkhifgkkjeaaGInto
namespace Go.Proofs.Ytlogkhifgkkjeaa
open Go.RowKit
set_option linter.unusedVariables false
set_option linter.unusedSimpArgs false

theorem gdrop_nil (w : World) (s d : ByteArray) : Calls Try.prog 15 #[.pointer none, .string s, .string d] w fun e w' => e = .returned (.tuple #[ruV zeroU, .int .i64 11]) ∧ Below w.heap.size w w' := by
  have B0 := (Below.refl w.heap.size w).alloc (Nat.le_refl _) (.cells #[.string ⟨#[]⟩, .string ⟨#[]⟩, .int .i64 0, .int .i64 0, .int .i64 0] 31)
  have X0 : BoxU 31 (w.alloc (.cells #[.string ⟨#[]⟩, .string ⟨#[]⟩, .int .i64 0, .int .i64 0, .int .i64 0] 31)) w.heap.size zeroU := BoxU.new _ w zeroU
  go_enter Try.func15, Try.ntmps15
  go_wp2_with fail
  generalize hW0 : w.alloc (.cells #[.string ⟨#[]⟩, .string ⟨#[]⟩, .int .i64 0, .int .i64 0, .int .i64 0] 31) = W0 at *
  have HB0 := Lib.hid B0
  have HX0 := Lib.hid X0
  clear hW0 B0
  refine (gisNone_nil W0).mono ?_
  rintro e w' ⟨rfl, rfl⟩
  generalize hB : w.heap.size = B at *
  have x0 := X0.x0
  have x1 := X0.x1
  have x2 := X0.x2
  have x3 := X0.x3
  have x4 := X0.x4
  have f0 := frozen_of (o := 0) X0
  have f1 := frozen_of (o := 1) X0
  have f2 := frozen_of (o := 2) X0
  have f3 := frozen_of (o := 3) X0
  have f4 := frozen_of (o := 4) X0
  clear X0
  go_wp2
  refine bodyPost_ret (results_cell_pair rfl _ _ B _ _ _ _ (.int .i64 11) rfl rfl (box_set (r := zeroU) HX0.out) Try.underlying31 rfl (by kernel_rfl)) rfl ?_
  exact ⟨rfl, by rw [hB]; exact below_set (r := zeroU) HB0.out⟩

theorem gone_nil (w : World) (s : ByteArray) : Calls Try.prog 17 #[.pointer none, .string s] w fun e w' => e = .returned (.int .i64 0) ∧ w = w' := by
  go_enter Try.func17, Try.ntmps17
  go_wp2_with fail
  refine (gisNone_nil w).mono ?_
  rintro e w' ⟨rfl, rfl⟩
  go_wp2
  go_ret
  exact ⟨rfl, rfl⟩

def GoneP (w : World) (x bi bf : Nat) (F : Nat → Prop) (L : List Ru) (k : Tx) (e : Ending) (w' : World) : Prop := e = .returned (.int .i64 (goneN L k : Int)) ∧ ∃ F', GrTurn w w' x bi bf F F' (goneL L k)
set_option maxRecDepth 100000 in
set_option maxHeartbeats 4000000 in
theorem gone_ok (w : World) (x bi bf : Nat) (F : Nat → Prop) (L : List Ru) (k : Tx) (h : GrAt w x bi bf F L) (hL : L.length ≤ 1000) :
    Calls Try.prog 17 #[.pointer (some ⟨x, 0, none⟩), .string (bs k)] w (GoneP w x bi bf F L k) := by
  have HC := Lib.hid h.cell
  have HO := Lib.hid (goff_ok w x bi bf F L k h hL)
  have hlen := off_len L k
  have hgood := h.good
  have hoff : (offU L k).length ≤ 1000 := by omega
  clear h
  go_enter Try.func17, Try.ntmps17
  go_wp2_with fail
  refine (gisNone_no w x bi bf HC.out).mono ?_
  rintro e w' ⟨rfl, rfl⟩
  go_wp2_with fail
  refine HO.out.mono ?_
  rintro e W1 ⟨rfl, T1⟩
  obtain ⟨LI, i1, i2⟩ := T1.gr.into
  have c0 := T1.gr.cell.c0
  have H1 := Lib.hid i1
  have HT1 := Lib.hid T1
  have hu0 : (look LI k).getD (.agg #[.string ⟨#[]⟩, .string ⟨#[]⟩, .int .i64 0, .int .i64 0, .int .i64 0]) = ruV ((intoL (offU L k) k).getD zeroU) := by rw [i2, ru_zero]
  have hok0 : (look LI k).isSome = (intoL (offU L k) k).isSome := by rw [i2]; cases intoL (offU L k) k <;> rfl
  clear i1 i2 T1 HO
  cases hI : intoL (offU L k) k with
  | none =>
    have HD := Lib.hid (gone_none hI)
    have hu : (look LI k).getD (.agg #[.string ⟨#[]⟩, .string ⟨#[]⟩, .int .i64 0, .int .i64 0, .int .i64 0]) = .agg #[.string ⟨#[]⟩, .string ⟨#[]⟩, .int .i64 0, .int .i64 0, .int .i64 0] := by rw [hu0, hI]; rfl
    have hok : (look LI k).isSome = false := by rw [hok0, hI]; rfl
    have HN := Lib.hid (show ((ofL L k).length : Int) = (goneN L k : Int) from by unfold goneN; rw [HD.out]; omega)
    have HB := Lib.hid ((Below.refl W1.heap.size W1).alloc (Nat.le_refl _) (.cells #[.string ⟨#[]⟩, .string ⟨#[]⟩, .int .i64 0, .int .i64 0, .int .i64 0] 31))
    clear hu0 hok0 hI
    generalize (ofL L k).length = n at *
    go_wp2_with (first
      | (at_lookup; refine wpList_lookup_mok _ rfl _ _ 60 rfl 9 31 Try.underlying60 Try.underlying9 _ (Try.zeroValue31 _) bi _ rfl H1.out k _ rfl rfl _ hu _ hok ?_))
    go_ret
    unfold GoneP
    rw [← HN.out, HD.out]
    exact ⟨rfl, F, HT1.out.thenB HB.out⟩
  | some r =>
    have hrL := (into_mem hI).1
    have HD := Lib.hid (gone_out hgood hI)
    have hu : (look LI k).getD (.agg #[.string ⟨#[]⟩, .string ⟨#[]⟩, .int .i64 0, .int .i64 0, .int .i64 0]) = .agg #[.string (bs r.src), .string (bs r.dst), .int .i64 r.kind, .int .i64 r.size, .int .i64 r.align] := by rw [hu0, hI]; rfl
    have hok : (look LI k).isSome = true := by rw [hok0, hI]; rfl
    have hol := out_len HT1.out.gr.good.ord hrL
    have HN := Lib.hid (show ((ofL L k).length : Int) + 1 = (goneN L k : Int) from by unfold goneN; rw [HD.out]; omega)
    have B1 := (Below.refl W1.heap.size W1).alloc (Nat.le_refl _) (.cells #[.string (bs r.src), .string (bs r.dst), .int .i64 r.kind, .int .i64 r.size, .int .i64 r.align] 31)
    have Y1 := BoxU.new 31 W1 r
    have HG1 := Lib.hid (HT1.out.thenB B1)
    have hn : (ofL L k).length ≤ 1000 := by omega
    clear hu0 hok0 hI hol B1 hgood
    generalize (ofL L k).length = n at *
    go_wp2_with (first
      | (at_lookup; refine wpList_lookup_mok _ rfl _ _ 60 rfl 9 31 Try.underlying60 Try.underlying9 _ (Try.zeroValue31 _) bi _ rfl H1.out k _ rfl rfl _ hu _ hok ?_))
    refine (gtake_x _ x bi bf F (offU L k) r HG1.out.gr hoff hrL).mono ?_
    rintro e W2 ⟨rfl, F', T2⟩
    have HT := Lib.hid (HG1.out.trans T2)
    clear T2 HG1 HT1 Y1
    go_wp2
    go_ret
    unfold GoneP
    rw [← HN.out, HD.out]
    exact ⟨by first | rfl | exact ret_int (by omega), F', HT.out⟩

end Go.Proofs.Ytlogkhifgkkjeaa
