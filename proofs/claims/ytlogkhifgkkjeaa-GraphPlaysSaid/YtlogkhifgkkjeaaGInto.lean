/-
  Contracts of the graph's Into, Of, Drop, Gone.
-/
import Derived.Test.YtlogkhifgkkjeaaGOff
import Derived.Test.YtlogkhifgkkjeaaCellPair
namespace Go.Proofs.Ytlogkhifgkkjeaa
open Go.RowKit
set_option linter.unusedVariables false
set_option linter.unusedSimpArgs false

def ZC (τ : TypeId) : Obj := .cells #[.string ⟨#[]⟩, .string ⟨#[]⟩, .int .i64 0, .int .i64 0, .int .i64 0] τ
/-- A result's block, written. -/
theorem box_set {τ : TypeId} {w : World} {B : Nat} {q r : Ru} (h : BoxU τ w B q) :
    BoxU τ (((((w.setCell ⟨B, 0, none⟩ (.string (bs r.src))).setCell ⟨B, 1, none⟩ (.string (bs r.dst))).setCell ⟨B, 2, none⟩ (.int .i64 r.kind)).setCell ⟨B, 3, none⟩ (.int .i64 r.size)).setCell ⟨B, 4, none⟩ (.int .i64 r.align)) B r :=
  heap_set (heap_set (heap_set (heap_set (heap_set h))))
theorem below_set {B : Nat} {w0 w : World} {r : Ru} (h : Below B w0 w) :
    Below B w0 (((((w.setCell ⟨B, 0, none⟩ (.string (bs r.src))).setCell ⟨B, 1, none⟩ (.string (bs r.dst))).setCell ⟨B, 2, none⟩ (.int .i64 r.kind)).setCell ⟨B, 3, none⟩ (.int .i64 r.size)).setCell ⟨B, 4, none⟩ (.int .i64 r.align)) :=
  ((((h.setCell (p := ⟨B, 0, none⟩) (Nat.le_refl _) _).setCell (p := ⟨B, 1, none⟩) (Nat.le_refl _) _).setCell (p := ⟨B, 2, none⟩) (Nat.le_refl _) _).setCell (p := ⟨B, 3, none⟩) (Nat.le_refl _) _).setCell (p := ⟨B, 4, none⟩) (Nat.le_refl _) _
theorem gb_box {w0 w : World} {B : Nat} {r : Ru} (h : w0.grownBy w (some B)) :
    w0.grownBy (((((w.setCell ⟨B, 0, none⟩ (.string (bs r.src))).setCell ⟨B, 1, none⟩ (.string (bs r.dst))).setCell ⟨B, 2, none⟩ (.int .i64 r.kind)).setCell ⟨B, 3, none⟩ (.int .i64 r.size)).setCell ⟨B, 4, none⟩ (.int .i64 r.align)) (some B) :=
  gb_set (gb_set (gb_set (gb_set (gb_set h _ _) _ _) _ _) _ _) _ _
theorem ru_zero (k : Option Ru) : (k.map ruV).getD (.agg #[.string ⟨#[]⟩, .string ⟨#[]⟩, .int .i64 0, .int .i64 0, .int .i64 0]) = ruV (k.getD zeroU) := by cases k <;> rfl

set_option maxRecDepth 100000 in
set_option maxHeartbeats 2000000 in
theorem ginto_ok (w : World) (x bi bf : Nat) (I : Tx → Option Ru) (d : Tx) (hc : GrCell w x bi bf) (h : IntoAt w bi I) :
    Calls Try.prog 20 #[.pointer (some ⟨x, 0, none⟩), .string (bs d)] w fun e w' => e = .returned (.tuple #[ruV ((I d).getD zeroU), .bool (I d).isSome]) ∧ Below w.heap.size w w' := by
  have B0 := (Below.refl w.heap.size w).alloc (Nat.le_refl _) (.cells #[.string ⟨#[]⟩, .string ⟨#[]⟩, .int .i64 0, .int .i64 0, .int .i64 0] 31)
  have X0 : BoxU 31 (w.alloc (.cells #[.string ⟨#[]⟩, .string ⟨#[]⟩, .int .i64 0, .int .i64 0, .int .i64 0] 31)) w.heap.size zeroU := BoxU.new _ w zeroU
  have HC0 := hc.keep B0
  have HI0 := h.same (B0.block bi h.lt)
  obtain ⟨LI, i1, i2⟩ := HI0
  have hu : (look LI d).getD (.agg #[.string ⟨#[]⟩, .string ⟨#[]⟩, .int .i64 0, .int .i64 0, .int .i64 0]) = ruV ((I d).getD zeroU) := by rw [i2, ru_zero]
  have hok : (look LI d).isSome = (I d).isSome := by rw [i2]; cases I d <;> rfl
  generalize (I d).getD zeroU = r at *
  generalize (I d).isSome = b at *
  clear h hc i2
  go_enter Try.func20, Try.ntmps20
  go_wp2_with fail
  generalize hW0 : w.alloc (.cells #[.string ⟨#[]⟩, .string ⟨#[]⟩, .int .i64 0, .int .i64 0, .int .i64 0] 31) = W0 at *
  have HB0 := Lib.hid B0
  have HX0 := Lib.hid X0
  have H1 := Lib.hid i1
  clear hW0 B0 X0 i1
  refine (gisNone_no W0 x bi bf HC0).mono ?_
  rintro e w' ⟨rfl, rfl⟩
  have c0 := HC0.c0
  have B1 := (Below.refl W0.heap.size W0).alloc (Nat.le_refl _) (.cells #[.string (bs r.src), .string (bs r.dst), .int .i64 r.kind, .int .i64 r.size, .int .i64 r.align] 31)
  have X1 := HX0.out.keep B1
  have Y1 := BoxU.new 31 W0 r
  have HB1 := Lib.hid (HB0.out.trans (B1.mono HB0.out.size))
  generalize hB : w.heap.size = B at *
  have x0 := X1.x0
  have x1 := X1.x1
  have x2 := X1.x2
  have x3 := X1.x3
  have x4 := X1.x4
  have f0 := frozen_of (o := 0) X1
  have f1 := frozen_of (o := 1) X1
  have f2 := frozen_of (o := 2) X1
  have f3 := frozen_of (o := 3) X1
  have f4 := frozen_of (o := 4) X1
  have HX1 := Lib.hid X1
  clear X1 B1 HC0
  unfold ruV at hu
  go_wp2_with (first
    | (at_lookup; refine wpList_lookup_mok _ rfl _ _ 60 rfl 9 31 Try.underlying60 Try.underlying9 _ (Try.zeroValue31 _) bi _ rfl H1.out d _ rfl rfl _ hu _ hok ?_))
  refine bodyPost_ret (results_cell_pair rfl _ _ B _ _ _ _ (.bool b) rfl rfl (box_set (r := r) HX1.out) Try.underlying31 rfl (by kernel_rfl)) rfl ?_
  exact ⟨rfl, by rw [hB]; exact below_set HB1.out⟩

theorem ginto_nil (w : World) (s : ByteArray) : Calls Try.prog 20 #[.pointer none, .string s] w fun e w' => e = .returned (.tuple #[ruV zeroU, .bool false]) ∧ Below w.heap.size w w' := by
  have B0 := (Below.refl w.heap.size w).alloc (Nat.le_refl _) (.cells #[.string ⟨#[]⟩, .string ⟨#[]⟩, .int .i64 0, .int .i64 0, .int .i64 0] 31)
  have X0 : BoxU 31 (w.alloc (.cells #[.string ⟨#[]⟩, .string ⟨#[]⟩, .int .i64 0, .int .i64 0, .int .i64 0] 31)) w.heap.size zeroU := BoxU.new _ w zeroU
  go_enter Try.func20, Try.ntmps20
  go_wp2_with fail
  generalize hW0 : w.alloc (.cells #[.string ⟨#[]⟩, .string ⟨#[]⟩, .int .i64 0, .int .i64 0, .int .i64 0] 31) = W0 at *
  have HB0 := Lib.hid B0
  have HX0 := Lib.hid X0
  clear hW0 B0
  refine (gisNone_nil W0).mono ?_
  rintro e w' ⟨rfl, rfl⟩
  generalize hB : w.heap.size = B at *
  have x0 := X0.x0
  have x1 := X0.x1
  have x2 := X0.x2
  have x3 := X0.x3
  have x4 := X0.x4
  have f0 := frozen_of (o := 0) X0
  have f1 := frozen_of (o := 1) X0
  have f2 := frozen_of (o := 2) X0
  have f3 := frozen_of (o := 3) X0
  have f4 := frozen_of (o := 4) X0
  clear X0
  go_wp2
  refine bodyPost_ret (results_cell_pair rfl _ _ B _ _ _ _ (.bool false) rfl rfl (box_set (r := zeroU) HX0.out) Try.underlying31 rfl (by kernel_rfl)) rfl ?_
  exact ⟨rfl, by rw [hB]; exact below_set (r := zeroU) HB0.out⟩

/-- Of: a list of its own. -/
theorem gof_ok (w : World) (x bi bf : Nat) (F : Nat → Prop) (O : Tx → List Ru) (s : Tx) (hc : GrCell w x bi bf) (h : FromAt w bf F O) (hO : (O s).length ≤ 1000) :
    Calls Try.prog 25 #[.pointer (some ⟨x, 0, none⟩), .string (bs s)] w fun e w' => ∃ v, e = .returned v ∧ URow 31 w' w.heap.size v (O s) ∧ Below w.heap.size w w' := by
  have HC := Lib.hid hc
  have c1 := hc.c1
  obtain ⟨LF, K, f1, f2, f3⟩ := h
  obtain ⟨a, cap, e0, hr0, _⟩ := (f3.row s).shape
  have hl : (look LF s).getD (.slice none 0 0) = .slice a (O s).length cap := by rw [f2, ← e0]; rfl
  have HF1 := Lib.hid f1
  have HCL := Lib.hid (gclone_any a (O s).length cap (O s) w hr0 hO)
  generalize (O s).length = n at *
  clear f1 f2 f3 e0 hr0 hO hc
  go_enter Try.func25, Try.ntmps25
  go_wp2_with fail
  refine (gisNone_no w x bi bf HC.out).mono ?_
  rintro e w' ⟨rfl, rfl⟩
  go_wp2_with (first
    | (at_lookup; refine wpList_lookup_m _ rfl _ _ 61 rfl 9 51 Try.underlying61 Try.underlying9 _ (Try.zeroValue51 _) bf _ rfl HF1.out s _ rfl rfl _ hl ?_))
  refine HCL.out.mono ?_
  rintro e w2 ⟨v, rfl, r2, b2⟩
  have R2 := Lib.hid r2
  clear r2 HCL
  go_wp2
  go_ret
  exact ⟨v, rfl, R2.out, b2⟩
theorem gof_nil (w : World) (s : ByteArray) : Calls Try.prog 25 #[.pointer none, .string s] w fun e w' => e = .returned (.slice none 0 0) ∧ w = w' := by
  go_enter Try.func25, Try.ntmps25
  go_wp2_with fail
  refine (gisNone_nil w).mono ?_
  rintro e w' ⟨rfl, rfl⟩
  go_wp2
  go_ret
  exact ⟨rfl, rfl⟩

/-- A result's block has turned. -/
theorem GrTurn.box {w w2 w3 : World} {x bi bf B : Nat} {F F' : Nat → Prop} {L' : List Ru} (h : GrTurn w w2 x bi bf F F' L') (hB : w.heap.size ≤ B) (hf : ¬ F' B) (hx : x ≠ B) (g : w2.grownBy w3 (some B)) : GrTurn w w3 x bi bf F F' L' :=
  ⟨h.gr.tu (Tu.gb (F := fun i => i = B) g rfl) (fun e => hx e) (fun i f e => hf (e ▸ f)), h.ext, h.tu.trans (Tu.gb (F := fun i => i = B) g rfl) (fun i hi e => by omega)⟩
theorem gtake_x (w : World) (x bi bf : Nat) (F : Nat → Prop) (L : List Ru) (r : Ru) (h : GrAt w x bi bf F L) (hL : L.length ≤ 1000) (hr : r ∈ L) :
    Calls Try.prog 34 #[.pointer (some ⟨x, 0, none⟩), .agg #[.string (bs r.src), .string (bs r.dst), .int .i64 r.kind, .int .i64 r.size, .int .i64 r.align]] w fun e w' => e = .returned (.tuple #[]) ∧ ∃ F', GrTurn w w' x bi bf F F' (outU L r) := gtake_ok w x bi bf F L r h hL hr

def DropP (w : World) (x bi bf : Nat) (F : Nat → Prop) (L : List Ru) (s d : Tx) (e : Ending) (w' : World) : Prop := e = .returned (.tuple #[ruV (dropR L s d), .int .i64 (dropE L s d)]) ∧ ∃ F', GrTurn w w' x bi bf F F' (dropU L s d)
set_option maxRecDepth 100000 in
set_option maxHeartbeats 4000000 in
theorem gdrop_ok (w : World) (x bi bf : Nat) (F : Nat → Prop) (L : List Ru) (s d : Tx) (h : GrAt w x bi bf F L) (hL : L.length ≤ 1000) :
    Calls Try.prog 15 #[.pointer (some ⟨x, 0, none⟩), .string (bs s), .string (bs d)] w (DropP w x bi bf F L s d) := by
  have B0 := (Below.refl w.heap.size w).alloc (Nat.le_refl _) (.cells #[.string ⟨#[]⟩, .string ⟨#[]⟩, .int .i64 0, .int .i64 0, .int .i64 0] 31)
  have X0 : BoxU 31 (w.alloc (.cells #[.string ⟨#[]⟩, .string ⟨#[]⟩, .int .i64 0, .int .i64 0, .int .i64 0] 31)) w.heap.size zeroU := BoxU.new _ w zeroU
  have G0 := h.keep B0
  have HG := Lib.hid h
  have hxB := h.xlt
  obtain ⟨LI, i1, i2⟩ := G0.into
  have hu0 : (look LI d).getD (.agg #[.string ⟨#[]⟩, .string ⟨#[]⟩, .int .i64 0, .int .i64 0, .int .i64 0]) = ruV ((intoL L d).getD zeroU) := by rw [i2, ru_zero]
  have hok0 : (look LI d).isSome = (intoL L d).isSome := by rw [i2]; cases intoL L d <;> rfl
  have HG0 := Lib.hid G0
  clear i2 h G0
  cases hI : intoL L d with
  | none =>
    have HD := Lib.hid (drop_miss (s := s) hI)
    have hu : (look LI d).getD (.agg #[.string ⟨#[]⟩, .string ⟨#[]⟩, .int .i64 0, .int .i64 0, .int .i64 0]) = .agg #[.string ⟨#[]⟩, .string ⟨#[]⟩, .int .i64 0, .int .i64 0, .int .i64 0] := by rw [hu0, hI]; rfl
    have hok : (look LI d).isSome = false := by rw [hok0, hI]; rfl
    clear hu0 hok0 hI
    go_enter Try.func15, Try.ntmps15
    go_wp2_with fail
    generalize hW0 : w.alloc (.cells #[.string ⟨#[]⟩, .string ⟨#[]⟩, .int .i64 0, .int .i64 0, .int .i64 0] 31) = W0 at *
    have HB0 := Lib.hid B0
    have HX0 := Lib.hid X0
    have H1 := Lib.hid i1
    clear hW0 B0 X0 i1
    refine (gisNone_no W0 x bi bf HG0.out.cell).mono ?_
    rintro e w' ⟨rfl, rfl⟩
    have c0 := HG0.out.cell.c0
    have B1 := (Below.refl W0.heap.size W0).alloc (Nat.le_refl _) (.cells #[.string ⟨#[]⟩, .string ⟨#[]⟩, .int .i64 0, .int .i64 0, .int .i64 0] 31)
    have X1 := HX0.out.keep B1
    have HB1 := Lib.hid (HB0.out.trans (B1.mono HB0.out.size))
    generalize hB : w.heap.size = B at *
    have x0 := X1.x0
    have x1 := X1.x1
    have x2 := X1.x2
    have x3 := X1.x3
    have x4 := X1.x4
    have f0 := frozen_of (o := 0) X1
    have f1 := frozen_of (o := 1) X1
    have f2 := frozen_of (o := 2) X1
    have f3 := frozen_of (o := 3) X1
    have f4 := frozen_of (o := 4) X1
    have HX1 := Lib.hid X1
    clear X1 B1
    go_wp2_with (first
      | (at_lookup; refine wpList_lookup_mok _ rfl _ _ 60 rfl 9 31 Try.underlying60 Try.underlying9 _ (Try.zeroValue31 _) bi _ rfl H1.out d _ rfl rfl _ hu _ hok ?_))
    refine bodyPost_ret (results_cell_pair rfl _ _ B _ _ _ _ (.int .i64 5) rfl rfl (box_set (r := zeroU) HX1.out) Try.underlying31 rfl (by kernel_rfl)) rfl ?_
    obtain ⟨d1, d2, d3⟩ := HD.out
    unfold DropP
    rw [d1, d2, d3]
    exact ⟨rfl, F, HG.out.keep (by rw [hB]; exact below_set (r := zeroU) HB1.out), fun _ f => .inl f, .of (by rw [hB]; exact below_set (r := zeroU) HB1.out)⟩
  | some r =>
    have hrL := (into_mem hI).1
    have hu : (look LI d).getD (.agg #[.string ⟨#[]⟩, .string ⟨#[]⟩, .int .i64 0, .int .i64 0, .int .i64 0]) = .agg #[.string (bs r.src), .string (bs r.dst), .int .i64 r.kind, .int .i64 r.size, .int .i64 r.align] := by rw [hu0, hI]; rfl
    have hok : (look LI d).isSome = true := by rw [hok0, hI]; rfl
    have hse := eq_bs r.src s
    have HD1 := Lib.hid (fun (e : r.src = s) => drop_hit hI e)
    have HD2 := Lib.hid (fun (e : r.src ≠ s) => drop_other hI e)
    clear hu0 hok0 hI
    go_enter Try.func15, Try.ntmps15
    go_wp2_with fail
    generalize hW0 : w.alloc (.cells #[.string ⟨#[]⟩, .string ⟨#[]⟩, .int .i64 0, .int .i64 0, .int .i64 0] 31) = W0 at *
    have HB0 := Lib.hid B0
    have HX0 := Lib.hid X0
    have H1 := Lib.hid i1
    clear hW0 B0 X0 i1
    refine (gisNone_no W0 x bi bf HG0.out.cell).mono ?_
    rintro e w' ⟨rfl, rfl⟩
    have c0 := HG0.out.cell.c0
    have B1 := (Below.refl W0.heap.size W0).alloc (Nat.le_refl _) (.cells #[.string (bs r.src), .string (bs r.dst), .int .i64 r.kind, .int .i64 r.size, .int .i64 r.align] 31)
    have X1 := HX0.out.keep B1
    have Y1 := BoxU.new 31 W0 r
    have HG1 := Lib.hid (HG0.out.keep B1)
    have hBW := X1.lt
    have HB1 := Lib.hid (HB0.out.trans (B1.mono HB0.out.size))
    generalize hB : w.heap.size = B at *
    by_cases he : r.src = s
    · have HD := Lib.hid (HD1.out he)
      rw [decide_eq_true he] at hse
      clear he HD1 HD2
      go_wp2_with (first
        | (at_lookup; refine wpList_lookup_mok _ rfl _ _ 60 rfl 9 31 Try.underlying60 Try.underlying9 _ (Try.zeroValue31 _) bi _ rfl H1.out d _ rfl rfl _ hu _ hok ?_))
      generalize W0.alloc (.cells #[.string (bs r.src), .string (bs r.dst), .int .i64 r.kind, .int .i64 r.size, .int .i64 r.align] 31) = W1 at *
      refine (gtake_x W1 x bi bf F L r HG1.out hL hrL).mono ?_
      rintro e W2 ⟨rfl, F', T2⟩
      have hF0 : ∀ i, F i → i < B := fun i f => by rw [← hB]; exact HG.out.lt i f
      have hf1 : ¬ F B := fun f => by have := hF0 B f; omega
      have hf2 : ¬ F W0.heap.size := fun f => by have := hF0 _ f; have := HX0.out.lt; omega
      have X2 := X1.tu T2.tu hf1
      have Y2 := Y1.tu T2.tu hf2
      have x0 := X2.x0
      have x1 := X2.x1
      have x2 := X2.x2
      have x3 := X2.x3
      have x4 := X2.x4
      have f0 := frozen_of (o := 0) X2
      have f1 := frozen_of (o := 1) X2
      have f2 := frozen_of (o := 2) X2
      have f3 := frozen_of (o := 3) X2
      have f4 := frozen_of (o := 4) X2
      have y0 := Y2.x0
      have y1 := Y2.x1
      have y2 := Y2.x2
      have y3 := Y2.x3
      have y4 := Y2.x4
      have HX2 := Lib.hid X2
      have HT2 := Lib.hid (T2.pre (show Below w.heap.size w W1 from by rw [hB]; exact HB1.out))
      have HnB := Lib.hid (T2.out hBW hf1)
      generalize W0.heap.size = Bq at *
      clear X1 B1 X2 Y1 Y2 T2 c0
      go_wp2
      refine bodyPost_ret (results_cell_pair rfl _ _ B _ _ _ _ (.int .i64 0) rfl rfl (box_set (r := r) HX2.out) Try.underlying31 rfl (by kernel_rfl)) rfl ?_
      obtain ⟨d1, d2, d3⟩ := HD.out
      unfold DropP
      rw [d1, d2, d3]
      exact ⟨rfl, F', HT2.out.box (by rw [hB]; exact Nat.le_refl _) HnB.out (by omega) (gb_box (r := r) (gb_refl _ _))⟩
    · have HD := Lib.hid (HD2.out he)
      rw [decide_eq_false he] at hse
      clear he HD1 HD2
      have x0 := X1.x0
      have x1 := X1.x1
      have x2 := X1.x2
      have x3 := X1.x3
      have x4 := X1.x4
      have f0 := frozen_of (o := 0) X1
      have f1 := frozen_of (o := 1) X1
      have f2 := frozen_of (o := 2) X1
      have f3 := frozen_of (o := 3) X1
      have f4 := frozen_of (o := 4) X1
      have HX1 := Lib.hid X1
      clear X1 B1
      go_wp2_with (first
        | (at_lookup; refine wpList_lookup_mok _ rfl _ _ 60 rfl 9 31 Try.underlying60 Try.underlying9 _ (Try.zeroValue31 _) bi _ rfl H1.out d _ rfl rfl _ hu _ hok ?_))
      refine bodyPost_ret (results_cell_pair rfl _ _ B _ _ _ _ (.int .i64 5) rfl rfl (box_set (r := zeroU) HX1.out) Try.underlying31 rfl (by kernel_rfl)) rfl ?_
      obtain ⟨d1, d2, d3⟩ := HD.out
      unfold DropP
      rw [d1, d2, d3]
      exact ⟨rfl, F, HG.out.keep (by rw [hB]; exact below_set (r := zeroU) HB1.out), fun _ f => .inl f, .of (by rw [hB]; exact below_set (r := zeroU) HB1.out)⟩

end Go.Proofs.Ytlogkhifgkkjeaa
