/-
  Contracts.
-/
import Derived.Test.YtmifpfojhlmbkaaGreatJ0
import Derived.Test.YtmifpfojhlmbkaaGreatJ37
import Derived.Laws.Rows
import Derived.Laws.ResultCell
namespace Go.Proofs.YtmifpfojhlmbkaaGreat
open Lib (hid)
set_option maxRecDepth 100000
set_option maxHeartbeats 16000000
open Go.RowKit
set_option linter.unusedVariables false
set_option linter.unusedSimpArgs false
def restI (L l : List Ru) (d : Tx) : Option Ru := if ∃ r ∈ l, r.dst = d then none else intoL L d
theorem restI_nil (L : List Ru) (d : Tx) : restI L [] d = intoL L d := by unfold restI; rw [if_neg (by simp)]
theorem restI_snoc (L l : List Ru) (r : Ru) (d : Tx) : restI L (l ++ [r]) d = if d = r.dst then none else restI L l d := by
  unfold restI
  by_cases h : d = r.dst
  · rw [if_pos h, if_pos ⟨r, by simp, h.symm⟩]
  · rw [if_neg h]
    by_cases h2 : ∃ q ∈ l, q.dst = d
    · rw [if_pos h2]
      obtain ⟨q, hq, e⟩ := h2
      rw [if_pos ⟨q, by simp [hq], e⟩]
    · rw [if_neg h2, if_neg]
      rintro ⟨q, hq, e⟩
      rcases List.mem_append.1 hq with k | k
      · exact h2 ⟨q, k, e⟩
      · rw [List.mem_singleton] at k
        subst k
        exact h e.symm
theorem restI_off {L : List Ru} (h : GoodU L) (s d : Tx) : restI L (ofL L s) d = intoL (offU L s) d := by
  unfold restI
  by_cases h2 : ∃ r ∈ ofL L s, r.dst = d
  · rw [if_pos h2]
    obtain ⟨r, hr, e⟩ := h2
    refine (into_none.2 fun q hq hd => ?_).symm
    obtain ⟨a, b⟩ := mem_offU.1 hq
    have := h.one q a r (mem_ofL.1 hr).1 (hd.trans e.symm)
    rw [this] at b
    exact b (mem_ofL.1 hr).2
  · rw [if_neg h2]
    refine h.into_ext (h.filter _) (fun r hr => ?_)
    show r ∈ L ↔ r ∈ offU L s
    rw [mem_offU]
    exact ⟨fun k => ⟨k, fun e => h2 ⟨r, mem_ofL.2 ⟨k, e⟩, hr⟩⟩, fun k => k.1⟩
theorem goff_ok (w : World) (x bi bf : Nat) (F : Nat → Prop) (L : List Ru) (s : Tx) (h : GrAt w x bi bf F L) (hL : L.length ≤ 1000) :
    Calls Tryz.prog 138 #[.pointer (some ⟨x, 0, none⟩), .string (bs s)] w fun e w' => e = .returned (.int .i64 ((ofL L s).length : Int)) ∧ GrTurn w w' x bi bf F F (offU L s) := by
  have hG := hid (show GoodU (offU L s) from h.good.filter _)
  have hI := hid (restI_off h.good s)
  have hLen : (ofL L s).length ≤ 1000 := Nat.le_trans (ofL_le _ _) hL
  have M0 := hid h.mid
  have HFU := hid h.full
  have c1 := h.mid.cell.c1
  obtain ⟨LF, K, f1, f2, f3⟩ := h.mid.from_
  obtain ⟨a, cap, e0, hr0, hown⟩ := (f3.row s).shape
  have hl : (look LF s).getD (.slice none 0 0) = .slice a (ofL L s).length cap := by rw [f2, ← e0]; rfl
  have HF1 := hid f1
  have HR0 := hid hr0
  have HAB := hid (show ∀ ad, a = some ad → ad.block ≠ bi ∧ ad.block < w.heap.size from fun ad e => by
    obtain ⟨q1, q2, q3⟩ := h.mid.own_ne f3 (hown ad e)
    exact ⟨q2, h.mid.lt _ q1⟩)
  obtain ⟨n, hn⟩ : ∃ n, (ofL L s).length = n := ⟨_, rfl⟩
  have HN := hid hn
  have Mi := hid (show MidAt w x bi bf F (restI L ((ofL L s).take 0)) (ofL L) from by
    have e : restI L ((ofL L s).take 0) = intoL L := funext fun d => restI_nil L d
    rw [e]; exact h.mid)
  rw [hn] at hl hLen HR0 ⊢
  clear h hL f1 f2 f3 e0 hr0 hown hn
  go_enter Tryz.func138, Tryz.ntmps138
  go_wp2_with (first
    | (at_lookup; refine wpList_lookup_m _ rfl _ _ 174 rfl 9 38 Tryz.underlying174 Tryz.underlying9 _ (Tryz.zeroValue38 _) bf _ rfl HF1.out s _ rfl rfl _ hl ?_))
  clear c1 hl HF1
  go_loopw [22] (fun i wr => ∃ j : Nat, j ≤ n ∧ i = .int .i64 (j : Int) ∧ Hid (MidAt wr x bi bf F (restI L ((ofL L s).take j)) (ofL L)) ∧ Hid (Tu (fun i => i = bi) w wr)) (fun i _ => n - (intOf i).toNat)
  case atStart => exact ⟨0, Nat.zero_le _, rfl, Mi, hid (.refl _ _)⟩
  case round =>
    clear Mi
    obtain ⟨j, hj, rfl, M, T⟩ := hrel
    by_cases hjn : j < n
    · have hjz : (j : Int) < (n : Int) := by omega
      have hj0 : (0 : Int) ≤ (j : Int) := by omega
      obtain ⟨b, off, e1, hb, x0, x1, x2, x3, x4⟩ := (HR0.out.tu T.out (fun ad e => (HAB.out ad e).1)).at_ j hjn
      subst e1
      have HS := hid (show restI L ((ofL L s).take (j + 1)) = fun d => if d = (uA (ofL L s) j).dst then none else restI L ((ofL L s).take j) d from by
        rw [take_snoc_u (by rw [HN.out]; exact hjn)]
        exact funext fun d => restI_snoc L _ _ d)
      have B1 := (Below.refl wr.heap.size wr).alloc (Nat.le_refl _) (.cells #[.string (bs (uA (ofL L s) j).src), .string (bs (uA (ofL L s) j).dst), .int .i64 (uA (ofL L s) j).kind, .int .i64 (uA (ofL L s) j).size, .int .i64 (uA (ofL L s) j).align] 32)
      have X1 := BoxU.new 32 wr (uA (ofL L s) j)
      have M1 := M.out.keep B1
      have T1 := T.out.thenB B1
      generalize uA (ofL L s) j = r at *
      go_wp2_with fail
      generalize hW1 : wr.alloc (.cells #[.string (bs r.src), .string (bs r.dst), .int .i64 r.kind, .int .i64 r.size, .int .i64 r.align] 32) = W1 at *
      have HM1 := hid M1
      have HX1 := hid X1
      have HT1 := hid T1
      clear hW1 B1 M1 X1 x0 x1 x2 x3 x4 M T T1
      generalize wr.heap.size = B0 at *
      refine wp_region_still_tail 6 (by kernel_rfl) (by kernel_rfl) ?_
      simp only [List.take_succ_cons, List.take_zero, List.drop_succ_cons, List.drop_zero]
      change wpStill _ _ W1.drew (fun a' => wpList _ _ _ _ a' W1.drew) _ _
      have M2 := hid (HM1.out.keep ((Below.refl _ W1).drew))
      have X2 := hid (HX1.out.keep ((Below.refl _ W1).drew))
      have T2 := hid (HT1.out.trans (Tu.drew (fun i => i = bi) W1) (fun _ _ f => f))
      generalize W1.drew = W2 at *
      clear HM1 HX1 HT1
      have c0 := M2.out.cell.c0
      have x1 := X2.out.x1
      repeat still_step
      refine wpStill_nil ?_
      obtain ⟨LI, i1, i2⟩ := M2.out.into
      have HI1 := hid i1
      have HI2 := hid i2
      clear i1 i2
      go_wp2_with (first
        | (at_delete; refine wpList_delete_m _ rfl _ _ 173 9 rfl 32 Tryz.underlying173 Tryz.underlying9 bi _ rfl HI1.out r.dst _ rfl rfl ?_; intro w3 hm3 g3 hs3))
      have M3 := hid (M2.out.turnI g3 (IntoAt.del (J := restI L ((ofL L s).take (j + 1))) HI2.out hm3 (fun d => by rw [HS.out])))
      have T3 := hid (T2.out.trans (Tu.gb (F := fun i => i = bi) g3 rfl) (fun _ _ f => f))
      clear hm3 g3 hs3 HI1 HI2 M2 X2 T2 c0 x1 HS
      go_wp2
      go_roundw
      case rel => exact ⟨j + 1, by omega, by go_num, M3, T3⟩
      case measure => simp [intOf]; omega
    · have hjz : ¬ (j : Int) < (n : Int) := by omega
      obtain rfl : j = n := by omega
      rw [show (ofL L s).take j = ofL L s from List.take_of_length_le (by rw [HN.out]; exact Nat.le_refl _)] at M
      have M2 := hid (show MidAt wr x bi bf F (intoL (offU L s)) (ofL L) from by
        have e : restI L (ofL L s) = intoL (offU L s) := funext hI.out
        rw [← e]; exact M.out)
      clear M
      have c1 := M2.out.cell.c1
      obtain ⟨LF2, K2, f1, f2, f3⟩ := M2.out.from_
      have HF1 := hid f1
      have HF2 := hid f2
      have HF3 := hid f3
      clear f1 f2 f3
      go_wp2_with (first
        | (at_delete; refine wpList_delete_m _ rfl _ _ 174 9 rfl 38 Tryz.underlying174 Tryz.underlying9 bf _ rfl HF1.out s _ rfl rfl ?_; intro w9 hm9 g9 hs9))
      have M9 := hid (M2.out.dropO HF2.out HF3.out hm9 g9 (O' := ofL (offU L s)) (fun j => of_off L s j))
      have T9 := hid ((T.out.mono (G := F) (fun i _ e => e ▸ M0.out.fi)).trans (Tu.gb (F := F) g9 M0.out.ff) (fun _ _ f => f))
      go_ret
      exact ⟨rfl, ⟨M9.out, hG.out, (HFU.out.same (T.out.block bf M0.out.from_.lt (fun e => M0.out.ne e.symm))).dels HF1.out hm9 (fun _ _ h => h) (fun j hj => by rw [of_off, if_neg hj])⟩, fun i f => .inl f, T9.out⟩
theorem results_cell_pair {P : Program} {fn : Func} {p u : Tmp} {ty : TypeId} (h : fn.results = #[.cell p ty, .tmp u]) (tmps : Array Value) (w : World) (g : Nat) (t : TypeId) (cs : Array Value) (fr : Nat × Nat) (d : TypeDesc) (v : Value)
    (hp : tmps.getD p undef = .pointer (some ⟨g, 0, none⟩)) (hv : tmps.getD u undef = v) (hg : w.heap[g]? = some (.cells cs t fr))
    (hu : P.underlying ty = some d) (hd : (match d with | .struct _ | .array _ _ => true | _ => false) = true) (hi : (P.info? ty).map (·.size) = some cs.size) :
    (results fn tmps).run P w = .ok (.tuple #[.agg cs, v]) w := by
  rw [results_cell_tmp h, hp, hv]
  simp [asAddr, run_loadVar_row w g t ty cs fr d hg hu hd hi, Result.andThen]
theorem box_set {τ : TypeId} {w : World} {B : Nat} {q r : Ru} (h : BoxU τ w B q) :
    BoxU τ (((((w.setCell ⟨B, 0, none⟩ (.string (bs r.src))).setCell ⟨B, 1, none⟩ (.string (bs r.dst))).setCell ⟨B, 2, none⟩ (.int .i64 r.kind)).setCell ⟨B, 3, none⟩ (.int .i64 r.size)).setCell ⟨B, 4, none⟩ (.int .i64 r.align)) B r :=
  heap_set (heap_set (heap_set (heap_set (heap_set h))))
theorem below_set {B : Nat} {w0 w : World} {r : Ru} (h : Below B w0 w) :
    Below B w0 (((((w.setCell ⟨B, 0, none⟩ (.string (bs r.src))).setCell ⟨B, 1, none⟩ (.string (bs r.dst))).setCell ⟨B, 2, none⟩ (.int .i64 r.kind)).setCell ⟨B, 3, none⟩ (.int .i64 r.size)).setCell ⟨B, 4, none⟩ (.int .i64 r.align)) :=
  ((((h.setCell (p := ⟨B, 0, none⟩) (Nat.le_refl _) _).setCell (p := ⟨B, 1, none⟩) (Nat.le_refl _) _).setCell (p := ⟨B, 2, none⟩) (Nat.le_refl _) _).setCell (p := ⟨B, 3, none⟩) (Nat.le_refl _) _).setCell (p := ⟨B, 4, none⟩) (Nat.le_refl _) _
theorem gb_box {w0 w : World} {B : Nat} {r : Ru} (h : w0.grownBy w (some B)) :
    w0.grownBy (((((w.setCell ⟨B, 0, none⟩ (.string (bs r.src))).setCell ⟨B, 1, none⟩ (.string (bs r.dst))).setCell ⟨B, 2, none⟩ (.int .i64 r.kind)).setCell ⟨B, 3, none⟩ (.int .i64 r.size)).setCell ⟨B, 4, none⟩ (.int .i64 r.align)) (some B) :=
  gb_set (gb_set (gb_set (gb_set (gb_set h _ _) _ _) _ _) _ _) _ _
theorem ru_zero (k : Option Ru) : (k.map ruV).getD (.agg #[.string ⟨#[]⟩, .string ⟨#[]⟩, .int .i64 0, .int .i64 0, .int .i64 0]) = ruV (k.getD zeroU) := by cases k <;> rfl
theorem ginto_ok (w : World) (x bi bf : Nat) (I : Tx → Option Ru) (d : Tx) (hc : GrCell w x bi bf) (h : IntoAt w bi I) :
    Calls Tryz.prog 129 #[.pointer (some ⟨x, 0, none⟩), .string (bs d)] w fun e w' => e = .returned (.tuple #[ruV ((I d).getD zeroU), .bool (I d).isSome]) ∧ Below w.heap.size w w' := by
  have B0 := (Below.refl w.heap.size w).alloc (Nat.le_refl _) (.cells #[.string ⟨#[]⟩, .string ⟨#[]⟩, .int .i64 0, .int .i64 0, .int .i64 0] 32)
  have X0 : BoxU 32 (w.alloc (.cells #[.string ⟨#[]⟩, .string ⟨#[]⟩, .int .i64 0, .int .i64 0, .int .i64 0] 32)) w.heap.size zeroU := BoxU.new _ w zeroU
  have HC0 := hc.keep B0
  have HI0 := h.same (B0.block bi h.lt)
  obtain ⟨LI, i1, i2⟩ := HI0
  have hu : (look LI d).getD (.agg #[.string ⟨#[]⟩, .string ⟨#[]⟩, .int .i64 0, .int .i64 0, .int .i64 0]) = ruV ((I d).getD zeroU) := by rw [i2, ru_zero]
  have hok : (look LI d).isSome = (I d).isSome := by rw [i2]; cases I d <;> rfl
  generalize (I d).getD zeroU = r at *
  generalize (I d).isSome = b at *
  clear h hc i2
  go_enter Tryz.func129, Tryz.ntmps129
  go_wp2_with fail
  generalize hW0 : w.alloc (.cells #[.string ⟨#[]⟩, .string ⟨#[]⟩, .int .i64 0, .int .i64 0, .int .i64 0] 32) = W0 at *
  have HB0 := hid B0
  have HX0 := hid X0
  have H1 := hid i1
  clear hW0 B0 X0 i1
  refine (gisNone_no W0 x bi bf HC0).mono ?_
  rintro e w' ⟨rfl, rfl⟩
  have c0 := HC0.c0
  have B1 := (Below.refl W0.heap.size W0).alloc (Nat.le_refl _) (.cells #[.string (bs r.src), .string (bs r.dst), .int .i64 r.kind, .int .i64 r.size, .int .i64 r.align] 32)
  have X1 := HX0.out.keep B1
  have Y1 := BoxU.new 32 W0 r
  have HB1 := hid (HB0.out.trans (B1.mono HB0.out.size))
  generalize hB : w.heap.size = B at *
  have x0 := X1.x0
  have x1 := X1.x1
  have x2 := X1.x2
  have x3 := X1.x3
  have x4 := X1.x4
  have f0 := frozen_of (o := 0) X1
  have f1 := frozen_of (o := 1) X1
  have f2 := frozen_of (o := 2) X1
  have f3 := frozen_of (o := 3) X1
  have f4 := frozen_of (o := 4) X1
  have HX1 := hid X1
  clear X1 B1 HC0
  unfold ruV at hu
  go_wp2_with (first
    | (at_lookup; refine wpList_lookup_mok _ rfl _ _ 173 rfl 9 32 Tryz.underlying173 Tryz.underlying9 _ (Tryz.zeroValue32 _) bi _ rfl H1.out d _ rfl rfl _ hu _ hok ?_))
  refine bodyPost_ret (results_cell_pair rfl _ _ B _ _ _ _ (.bool b) rfl rfl (box_set (r := r) HX1.out) Tryz.underlying32 rfl (by kernel_rfl)) rfl ?_
  exact ⟨rfl, by rw [hB]; exact below_set HB1.out⟩
theorem gof_ok (w : World) (x bi bf : Nat) (F : Nat → Prop) (O : Tx → List Ru) (s : Tx) (hc : GrCell w x bi bf) (h : FromAt w bf F O) (hO : (O s).length ≤ 1000) :
    Calls Tryz.prog 79 #[.pointer (some ⟨x, 0, none⟩), .string (bs s)] w fun e w' => ∃ v, e = .returned v ∧ URow 32 w' w.heap.size v (O s) ∧ Below w.heap.size w w' := by
  have HC := hid hc
  have c1 := hc.c1
  obtain ⟨LF, K, f1, f2, f3⟩ := h
  obtain ⟨a, cap, e0, hr0, _⟩ := (f3.row s).shape
  have hl : (look LF s).getD (.slice none 0 0) = .slice a (O s).length cap := by rw [f2, ← e0]; rfl
  have HF1 := hid f1
  have HCL := hid (gclone_any a (O s).length cap (O s) w hr0 hO)
  generalize (O s).length = n at *
  clear f1 f2 f3 e0 hr0 hO hc
  go_enter Tryz.func79, Tryz.ntmps79
  go_wp2_with fail
  refine (gisNone_no w x bi bf HC.out).mono ?_
  rintro e w' ⟨rfl, rfl⟩
  go_wp2_with (first
    | (at_lookup; refine wpList_lookup_m _ rfl _ _ 174 rfl 9 38 Tryz.underlying174 Tryz.underlying9 _ (Tryz.zeroValue38 _) bf _ rfl HF1.out s _ rfl rfl _ hl ?_))
  refine HCL.out.mono ?_
  rintro e w2 ⟨v, rfl, r2, b2⟩
  have R2 := hid r2
  clear r2 HCL
  go_wp2
  go_ret
  exact ⟨v, rfl, R2.out, b2⟩
theorem GrTurn.box {w w2 w3 : World} {x bi bf B : Nat} {F F' : Nat → Prop} {L' : List Ru} (h : GrTurn w w2 x bi bf F F' L') (hB : w.heap.size ≤ B) (hf : ¬ F' B) (hx : x ≠ B) (g : w2.grownBy w3 (some B)) : GrTurn w w3 x bi bf F F' L' :=
  ⟨h.gr.tu (Tu.gb (F := fun i => i = B) g rfl) (fun e => hx e) (fun i f e => hf (e ▸ f)), h.ext, h.tu.trans (Tu.gb (F := fun i => i = B) g rfl) (fun i hi e => by omega)⟩
theorem gtake_x (w : World) (x bi bf : Nat) (F : Nat → Prop) (L : List Ru) (r : Ru) (h : GrAt w x bi bf F L) (hL : L.length ≤ 1000) (hr : r ∈ L) :
    Calls Tryz.prog 139 #[.pointer (some ⟨x, 0, none⟩), .agg #[.string (bs r.src), .string (bs r.dst), .int .i64 r.kind, .int .i64 r.size, .int .i64 r.align]] w fun e w' => e = .returned (.tuple #[]) ∧ ∃ F', GrTurn w w' x bi bf F F' (outU L r) := gtake_ok w x bi bf F L r h hL hr
def DropP (w : World) (x bi bf : Nat) (F : Nat → Prop) (L : List Ru) (s d : Tx) (e : Ending) (w' : World) : Prop := e = .returned (.tuple #[ruV (dropR L s d), .int .i64 (dropE L s d)]) ∧ ∃ F', GrTurn w w' x bi bf F F' (dropU L s d)
theorem gdrop_ok (w : World) (x bi bf : Nat) (F : Nat → Prop) (L : List Ru) (s d : Tx) (h : GrAt w x bi bf F L) (hL : L.length ≤ 1000) :
    Calls Tryz.prog 89 #[.pointer (some ⟨x, 0, none⟩), .string (bs s), .string (bs d)] w (DropP w x bi bf F L s d) := by
  have B0 := (Below.refl w.heap.size w).alloc (Nat.le_refl _) (.cells #[.string ⟨#[]⟩, .string ⟨#[]⟩, .int .i64 0, .int .i64 0, .int .i64 0] 32)
  have X0 : BoxU 32 (w.alloc (.cells #[.string ⟨#[]⟩, .string ⟨#[]⟩, .int .i64 0, .int .i64 0, .int .i64 0] 32)) w.heap.size zeroU := BoxU.new _ w zeroU
  have G0 := h.keep B0
  have HG := hid h
  have hxB := h.xlt
  obtain ⟨LI, i1, i2⟩ := G0.into
  have hu0 : (look LI d).getD (.agg #[.string ⟨#[]⟩, .string ⟨#[]⟩, .int .i64 0, .int .i64 0, .int .i64 0]) = ruV ((intoL L d).getD zeroU) := by rw [i2, ru_zero]
  have hok0 : (look LI d).isSome = (intoL L d).isSome := by rw [i2]; cases intoL L d <;> rfl
  have HG0 := hid G0
  clear i2 h G0
  cases hI : intoL L d with
  | none =>
    have HD := hid (drop_miss (s := s) hI)
    have hu : (look LI d).getD (.agg #[.string ⟨#[]⟩, .string ⟨#[]⟩, .int .i64 0, .int .i64 0, .int .i64 0]) = .agg #[.string ⟨#[]⟩, .string ⟨#[]⟩, .int .i64 0, .int .i64 0, .int .i64 0] := by rw [hu0, hI]; rfl
    have hok : (look LI d).isSome = false := by rw [hok0, hI]; rfl
    clear hu0 hok0 hI
    go_enter Tryz.func89, Tryz.ntmps89
    go_wp2_with fail
    generalize hW0 : w.alloc (.cells #[.string ⟨#[]⟩, .string ⟨#[]⟩, .int .i64 0, .int .i64 0, .int .i64 0] 32) = W0 at *
    have HB0 := hid B0
    have HX0 := hid X0
    have H1 := hid i1
    clear hW0 B0 X0 i1
    refine (gisNone_no W0 x bi bf HG0.out.cell).mono ?_
    rintro e w' ⟨rfl, rfl⟩
    have c0 := HG0.out.cell.c0
    have B1 := (Below.refl W0.heap.size W0).alloc (Nat.le_refl _) (.cells #[.string ⟨#[]⟩, .string ⟨#[]⟩, .int .i64 0, .int .i64 0, .int .i64 0] 32)
    have X1 := HX0.out.keep B1
    have HB1 := hid (HB0.out.trans (B1.mono HB0.out.size))
    generalize hB : w.heap.size = B at *
    have x0 := X1.x0
    have x1 := X1.x1
    have x2 := X1.x2
    have x3 := X1.x3
    have x4 := X1.x4
    have f0 := frozen_of (o := 0) X1
    have f1 := frozen_of (o := 1) X1
    have f2 := frozen_of (o := 2) X1
    have f3 := frozen_of (o := 3) X1
    have f4 := frozen_of (o := 4) X1
    have HX1 := hid X1
    clear X1 B1
    go_wp2_with (first
      | (at_lookup; refine wpList_lookup_mok _ rfl _ _ 173 rfl 9 32 Tryz.underlying173 Tryz.underlying9 _ (Tryz.zeroValue32 _) bi _ rfl H1.out d _ rfl rfl _ hu _ hok ?_))
    refine bodyPost_ret (results_cell_pair rfl _ _ B _ _ _ _ (.int .i64 5) rfl rfl (box_set (r := zeroU) HX1.out) Tryz.underlying32 rfl (by kernel_rfl)) rfl ?_
    obtain ⟨d1, d2, d3⟩ := HD.out
    unfold DropP
    rw [d1, d2, d3]
    exact ⟨rfl, F, HG.out.keep (by rw [hB]; exact below_set (r := zeroU) HB1.out), fun _ f => .inl f, .of (by rw [hB]; exact below_set (r := zeroU) HB1.out)⟩
  | some r =>
    have hrL := (into_mem hI).1
    have hu : (look LI d).getD (.agg #[.string ⟨#[]⟩, .string ⟨#[]⟩, .int .i64 0, .int .i64 0, .int .i64 0]) = .agg #[.string (bs r.src), .string (bs r.dst), .int .i64 r.kind, .int .i64 r.size, .int .i64 r.align] := by rw [hu0, hI]; rfl
    have hok : (look LI d).isSome = true := by rw [hok0, hI]; rfl
    have hse := eq_bs r.src s
    have HD1 := hid (fun (e : r.src = s) => drop_hit hI e)
    have HD2 := hid (fun (e : r.src ≠ s) => drop_other hI e)
    clear hu0 hok0 hI
    go_enter Tryz.func89, Tryz.ntmps89
    go_wp2_with fail
    generalize hW0 : w.alloc (.cells #[.string ⟨#[]⟩, .string ⟨#[]⟩, .int .i64 0, .int .i64 0, .int .i64 0] 32) = W0 at *
    have HB0 := hid B0
    have HX0 := hid X0
    have H1 := hid i1
    clear hW0 B0 X0 i1
    refine (gisNone_no W0 x bi bf HG0.out.cell).mono ?_
    rintro e w' ⟨rfl, rfl⟩
    have c0 := HG0.out.cell.c0
    have B1 := (Below.refl W0.heap.size W0).alloc (Nat.le_refl _) (.cells #[.string (bs r.src), .string (bs r.dst), .int .i64 r.kind, .int .i64 r.size, .int .i64 r.align] 32)
    have X1 := HX0.out.keep B1
    have Y1 := BoxU.new 32 W0 r
    have HG1 := hid (HG0.out.keep B1)
    have hBW := X1.lt
    have HB1 := hid (HB0.out.trans (B1.mono HB0.out.size))
    generalize hB : w.heap.size = B at *
    by_cases he : r.src = s
    · have HD := hid (HD1.out he)
      rw [decide_eq_true he] at hse
      clear he HD1 HD2
      go_wp2_with (first
        | (at_lookup; refine wpList_lookup_mok _ rfl _ _ 173 rfl 9 32 Tryz.underlying173 Tryz.underlying9 _ (Tryz.zeroValue32 _) bi _ rfl H1.out d _ rfl rfl _ hu _ hok ?_))
      generalize W0.alloc (.cells #[.string (bs r.src), .string (bs r.dst), .int .i64 r.kind, .int .i64 r.size, .int .i64 r.align] 32) = W1 at *
      refine (gtake_x W1 x bi bf F L r HG1.out hL hrL).mono ?_
      rintro e W2 ⟨rfl, F', T2⟩
      have hF0 : ∀ i, F i → i < B := fun i f => by rw [← hB]; exact HG.out.lt i f
      have hf1 : ¬ F B := fun f => by have := hF0 B f; omega
      have hf2 : ¬ F W0.heap.size := fun f => by have := hF0 _ f; have := HX0.out.lt; omega
      have X2 := X1.tu T2.tu hf1
      have Y2 := Y1.tu T2.tu hf2
      have x0 := X2.x0
      have x1 := X2.x1
      have x2 := X2.x2
      have x3 := X2.x3
      have x4 := X2.x4
      have f0 := frozen_of (o := 0) X2
      have f1 := frozen_of (o := 1) X2
      have f2 := frozen_of (o := 2) X2
      have f3 := frozen_of (o := 3) X2
      have f4 := frozen_of (o := 4) X2
      have y0 := Y2.x0
      have y1 := Y2.x1
      have y2 := Y2.x2
      have y3 := Y2.x3
      have y4 := Y2.x4
      have HX2 := hid X2
      have HT2 := hid (T2.pre (show Below w.heap.size w W1 from by rw [hB]; exact HB1.out))
      have HnB := hid (T2.out hBW hf1)
      generalize W0.heap.size = Bq at *
      clear X1 B1 X2 Y1 Y2 T2 c0
      go_wp2
      refine bodyPost_ret (results_cell_pair rfl _ _ B _ _ _ _ (.int .i64 0) rfl rfl (box_set (r := r) HX2.out) Tryz.underlying32 rfl (by kernel_rfl)) rfl ?_
      obtain ⟨d1, d2, d3⟩ := HD.out
      unfold DropP
      rw [d1, d2, d3]
      exact ⟨rfl, F', HT2.out.box (by rw [hB]; exact Nat.le_refl _) HnB.out (by omega) (gb_box (r := r) (gb_refl _ _))⟩
    · have HD := hid (HD2.out he)
      rw [decide_eq_false he] at hse
      clear he HD1 HD2
      have x0 := X1.x0
      have x1 := X1.x1
      have x2 := X1.x2
      have x3 := X1.x3
      have x4 := X1.x4
      have f0 := frozen_of (o := 0) X1
      have f1 := frozen_of (o := 1) X1
      have f2 := frozen_of (o := 2) X1
      have f3 := frozen_of (o := 3) X1
      have f4 := frozen_of (o := 4) X1
      have HX1 := hid X1
      clear X1 B1
      go_wp2_with (first
        | (at_lookup; refine wpList_lookup_mok _ rfl _ _ 173 rfl 9 32 Tryz.underlying173 Tryz.underlying9 _ (Tryz.zeroValue32 _) bi _ rfl H1.out d _ rfl rfl _ hu _ hok ?_))
      refine bodyPost_ret (results_cell_pair rfl _ _ B _ _ _ _ (.int .i64 5) rfl rfl (box_set (r := zeroU) HX1.out) Tryz.underlying32 rfl (by kernel_rfl)) rfl ?_
      obtain ⟨d1, d2, d3⟩ := HD.out
      unfold DropP
      rw [d1, d2, d3]
      exact ⟨rfl, F, HG.out.keep (by rw [hB]; exact below_set (r := zeroU) HB1.out), fun _ f => .inl f, .of (by rw [hB]; exact below_set (r := zeroU) HB1.out)⟩
def GoneP (w : World) (x bi bf : Nat) (F : Nat → Prop) (L : List Ru) (k : Tx) (e : Ending) (w' : World) : Prop := e = .returned (.int .i64 (goneN L k : Int)) ∧ ∃ F', GrTurn w w' x bi bf F F' (goneL L k)
theorem gone_ok (w : World) (x bi bf : Nat) (F : Nat → Prop) (L : List Ru) (k : Tx) (h : GrAt w x bi bf F L) (hL : L.length ≤ 1000) :
    Calls Tryz.prog 71 #[.pointer (some ⟨x, 0, none⟩), .string (bs k)] w (GoneP w x bi bf F L k) := by
  have HC := hid h.cell
  have HO := hid (goff_ok w x bi bf F L k h hL)
  have hlen := off_len L k
  have hgood := h.good
  have hoff : (offU L k).length ≤ 1000 := by omega
  clear h
  go_enter Tryz.func71, Tryz.ntmps71
  go_wp2_with fail
  refine (gisNone_no w x bi bf HC.out).mono ?_
  rintro e w' ⟨rfl, rfl⟩
  go_wp2_with fail
  refine HO.out.mono ?_
  rintro e W1 ⟨rfl, T1⟩
  obtain ⟨LI, i1, i2⟩ := T1.gr.into
  have c0 := T1.gr.cell.c0
  have H1 := hid i1
  have HT1 := hid T1
  have hu0 : (look LI k).getD (.agg #[.string ⟨#[]⟩, .string ⟨#[]⟩, .int .i64 0, .int .i64 0, .int .i64 0]) = ruV ((intoL (offU L k) k).getD zeroU) := by rw [i2, ru_zero]
  have hok0 : (look LI k).isSome = (intoL (offU L k) k).isSome := by rw [i2]; cases intoL (offU L k) k <;> rfl
  clear i1 i2 T1 HO
  cases hI : intoL (offU L k) k with
  | none =>
    have HD := hid (gone_none hI)
    have hu : (look LI k).getD (.agg #[.string ⟨#[]⟩, .string ⟨#[]⟩, .int .i64 0, .int .i64 0, .int .i64 0]) = .agg #[.string ⟨#[]⟩, .string ⟨#[]⟩, .int .i64 0, .int .i64 0, .int .i64 0] := by rw [hu0, hI]; rfl
    have hok : (look LI k).isSome = false := by rw [hok0, hI]; rfl
    have HN := hid (show ((ofL L k).length : Int) = (goneN L k : Int) from by unfold goneN; rw [HD.out]; omega)
    have HB := hid ((Below.refl W1.heap.size W1).alloc (Nat.le_refl _) (.cells #[.string ⟨#[]⟩, .string ⟨#[]⟩, .int .i64 0, .int .i64 0, .int .i64 0] 32))
    clear hu0 hok0 hI
    generalize (ofL L k).length = n at *
    go_wp2_with (first
      | (at_lookup; refine wpList_lookup_mok _ rfl _ _ 173 rfl 9 32 Tryz.underlying173 Tryz.underlying9 _ (Tryz.zeroValue32 _) bi _ rfl H1.out k _ rfl rfl _ hu _ hok ?_))
    go_ret
    unfold GoneP
    rw [← HN.out, HD.out]
    exact ⟨rfl, F, HT1.out.thenB HB.out⟩
  | some r =>
    have hrL := (into_mem hI).1
    have HD := hid (gone_out hgood hI)
    have hu : (look LI k).getD (.agg #[.string ⟨#[]⟩, .string ⟨#[]⟩, .int .i64 0, .int .i64 0, .int .i64 0]) = .agg #[.string (bs r.src), .string (bs r.dst), .int .i64 r.kind, .int .i64 r.size, .int .i64 r.align] := by rw [hu0, hI]; rfl
    have hok : (look LI k).isSome = true := by rw [hok0, hI]; rfl
    have hol := out_len HT1.out.gr.good.ord hrL
    have HN := hid (show ((ofL L k).length : Int) + 1 = (goneN L k : Int) from by unfold goneN; rw [HD.out]; omega)
    have B1 := (Below.refl W1.heap.size W1).alloc (Nat.le_refl _) (.cells #[.string (bs r.src), .string (bs r.dst), .int .i64 r.kind, .int .i64 r.size, .int .i64 r.align] 32)
    have Y1 := BoxU.new 32 W1 r
    have HG1 := hid (HT1.out.thenB B1)
    have hn : (ofL L k).length ≤ 1000 := by omega
    clear hu0 hok0 hI hol B1 hgood
    generalize (ofL L k).length = n at *
    go_wp2_with (first
      | (at_lookup; refine wpList_lookup_mok _ rfl _ _ 173 rfl 9 32 Tryz.underlying173 Tryz.underlying9 _ (Tryz.zeroValue32 _) bi _ rfl H1.out k _ rfl rfl _ hu _ hok ?_))
    refine (gtake_x _ x bi bf F (offU L k) r HG1.out.gr hoff hrL).mono ?_
    rintro e W2 ⟨rfl, F', T2⟩
    have HT := hid (HG1.out.trans T2)
    clear T2 HG1 HT1 Y1
    go_wp2
    go_ret
    unfold GoneP
    rw [← HN.out, HD.out]
    exact ⟨by first | rfl | exact ret_int (by omega), F', HT.out⟩
end Go.Proofs.YtmifpfojhlmbkaaGreat
