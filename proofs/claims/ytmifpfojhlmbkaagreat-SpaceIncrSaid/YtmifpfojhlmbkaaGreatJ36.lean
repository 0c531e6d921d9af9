/-
  Contracts.
-/
import Derived.Test.YtmifpfojhlmbkaaGreatJ1
import Derived.Test.YtmifpfojhlmbkaaGreatJ34
import Derived.Test.YtmifpfojhlmbkaaGreatJ35
import Derived.RangeFuncNested
import Derived.RangeFuncBound
import Derived.RangeFuncCalls
import Derived.RangeFuncLeaves
import Derived.RangeFuncBox
import Derived.Shelf.Abstract
import Derived.Shelf.RegionOpen
import Derived.WalkKit
import Derived.OwnWalkIn
import Derived.TacticsInMore
import Derived.LoopNIn
import Derived.LoopIn
import Derived.Maps.AppendAt
import Derived.StillTailTactics
namespace Go.Proofs.YtmifpfojhlmbkaaGreat
set_option maxRecDepth 100000
set_option maxHeartbeats 16000000
open Go.RowKit
set_option linter.unusedVariables false
set_option linter.unusedSimpArgs false
theorem MidAt.own_ne {w : World} {x bi bf : Nat} {F : Nat → Prop} {I : Tx → Option Ru} {O : Tx → List Ru} {K : Tx → Option Value} (h : MidAt w x bi bf F I O) (h3 : RowsAt w F O K) {s : Tx} {g : Nat} (e : (kV K s).ownBlock = some g) : F g ∧ g ≠ bi ∧ g ≠ bf := by
  refine ⟨h3.ownV e, ?_⟩
  unfold kV at e
  cases e3 : K s with
  | none => rw [e3] at e; cases e
  | some z =>
    rw [e3] at e
    obtain ⟨cs, f, hcs⟩ := h3.cells e3 e
    constructor
    · intro q
      obtain ⟨es, c, hmm⟩ := h.into.isMap
      rw [q, hmm] at hcs; cases hcs
    · intro q
      obtain ⟨es, c, hmm⟩ := h.from_.isMap
      rw [q, hmm] at hcs; cases hcs
def Six (w : World) (x B0 bf : Nat) (r : Ru) : Prop := w.cell? ⟨x, 1, none⟩ = some (mp bf) ∧ w.cell? ⟨B0, 0, none⟩ = some (.string (bs r.src)) ∧ w.cell? ⟨B0, 1, none⟩ = some (.string (bs r.dst)) ∧ w.cell? ⟨B0, 2, none⟩ = some (.int .i64 r.kind) ∧ w.cell? ⟨B0, 3, none⟩ = some (.int .i64 r.size) ∧ w.cell? ⟨B0, 4, none⟩ = some (.int .i64 r.align)
theorem sixG {w : World} {x B0 bi bf : Nat} {r : Ru} (h : GrCell w x bi bf) (k : BoxU 32 w B0 r) : Six w x B0 bf r := ⟨h.c1, k.x0, k.x1, k.x2, k.x3, k.x4⟩
theorem cells_far {w w' : World} {x B0 bi bf : Nat} {r : Ru} {v : Value} {n : Nat} (k : BoxU 32 w B0 r) (h : GrCell w x bi bf) (g : w.grownBy w' v.ownBlock) (hf : ∀ g, v.ownBlock = some g → g < n ∧ g ≠ B0 ∧ g ≠ x ∧ g ≠ bf) : Six w' x B0 bf r := by
  have t : Tu (fun i => v.ownBlock = some i) w w' := .gbo g (fun b e => e)
  exact sixG (h.tu t (fun e => (hf _ e).2.2.1 rfl)) (k.tu t (fun e => (hf _ e).2.1 rfl))
theorem cells_map {w w' : World} {x B0 b bf : Nat} {r : Ru} (k : Six w x B0 bf r) (g : w.grownBy w' (some b)) (hb : ∃ es c, w.heap[b]? = some (.map es c)) : Six w' x B0 bf r := by
  have t := Tu.gb (F := fun i => i = b) g rfl
  have hne : ∀ a v, w.cell? a = some v → ¬ (fun i => i = b) a.block := fun a v hc e => by
    obtain ⟨es, c, hm⟩ := hb
    unfold World.cell? at hc
    rw [show a.block = b from e, hm] at hc
    cases hc
  obtain ⟨h0, h1, h2, h3, h4, h5⟩ := k
  exact ⟨t.cell h0 (hne _ _ h0), t.cell h1 (hne _ _ h1), t.cell h2 (hne _ _ h2), t.cell h3 (hne _ _ h3), t.cell h4 (hne _ _ h4), t.cell h5 (hne _ _ h5)⟩
theorem bsearch_x (a : Option Addr) (n c : Nat) (l : List Ru) (d : Tx) (w : World) (h : RuAt w a n c l) (hn : n ≤ 1000) (hs : l.Pairwise (fun a b => a.dst < b.dst)) (k : Nat) (hk : atU l d = k) :
    Calls Tryz.prog 231 #[.slice a n c, .string (bs d), .func (.func 232) #[] #[]] w (SeaP k w) := by
  subst hk; exact bsearch_any a n c l d w h hn hs
theorem gput_ok (w : World) (x bi bf : Nat) (F : Nat → Prop) (L : List Ru) (r : Ru) (h : GrAt w x bi bf F L) (hL : L.length ≤ 900) (hr : addEG L r = 0) :
    Calls Tryz.prog 165 #[.pointer (some ⟨x, 0, none⟩), ruV r] w fun e w' => e = .returned (.tuple #[]) ∧ ∃ F', GrTurn w w' x bi bf F F' (insU r L) := by
  have hG := Lib.hid (h.good.ins hr)
  have hO := Lib.hid (fun j => of_ins_ne (s := j) h.good hr)
  have hS := Lib.hid (of_ins h.good hr)
  have hI := Lib.hid (into_ins h.good hr)
  have hD := Lib.hid (of_dst h.good r.src)
  have hLen : (ofL L r.src).length ≤ 900 := Nat.le_trans (ofL_le _ _) hL
  have B1 := (Below.refl w.heap.size w).alloc (Nat.le_refl _) (.cells #[.string (bs r.src), .string (bs r.dst), .int .i64 r.kind, .int .i64 r.size, .int .i64 r.align] 32)
  have X1 := BoxU.new 32 w r
  have M1 := h.mid.keep B1
  have hBx : x < w.heap.size := h.xlt
  have HM0 := Lib.hid h.mid
  have HFU := Lib.hid h.full
  clear h hL hr
  unfold ruV
  go_enter Tryz.func165, Tryz.ntmps165
  go_wp2_with fail
  generalize hW1 : w.alloc (.cells #[.string (bs r.src), .string (bs r.dst), .int .i64 r.kind, .int .i64 r.size, .int .i64 r.align] 32) = W1 at *
  have HB1 := Lib.hid B1
  have HM1 := Lib.hid M1
  have HX1 := Lib.hid X1
  clear hW1 B1 M1 X1
  generalize hBB : w.heap.size = B0 at *
  refine wp_region_still_tail 7 (by kernel_rfl) (by kernel_rfl) ?_
  simp only [List.take_succ_cons, List.take_zero, List.drop_succ_cons, List.drop_zero]
  change wpStill _ _ W1.drew (fun a' => wpList _ _ _ _ a' W1.drew) _ _
  have B2 := Lib.hid HB1.out.drew
  have M2 := Lib.hid (HM1.out.keep ((Below.refl _ W1).drew))
  have X2 := Lib.hid (HX1.out.keep ((Below.refl _ W1).drew))
  generalize W1.drew = W2 at *
  clear HB1 HM1 HX1
  have c0 := M2.out.cell.c0
  have x0 := X2.out.x0
  have x1 := X2.out.x1
  have x2 := X2.out.x2
  have x3 := X2.out.x3
  have x4 := X2.out.x4
  repeat still_step
  refine wpStill_nil ?_
  obtain ⟨LI, i1, i2⟩ := M2.out.into
  have HI1 := Lib.hid i1
  have HI2 := Lib.hid i2
  clear i1 i2
  go_wp2_with (first
    | (at_mapUpdate; refine wpList_mapUpdate_m _ rfl _ _ _ 173 rfl 9 32 Tryz.underlying173 Tryz.underlying9 bi _ rfl HI1.out r.dst _ rfl rfl (ruV r) rfl ?_; intro w3 hm3 g3 hs3))
  have M3 := Lib.hid (M2.out.turnI g3 (IntoAt.put HI2.out hm3 hI.out))
  have T3 := Lib.hid ((Tu.of (F := F) (by rw [hBB]; exact B2.out)).trans (Tu.gb g3 M2.out.fi) (fun _ _ f => f))
  have HFU3 := Lib.hid (show FullAt w3 bf (ofL L) from HFU.out.same ((g3.block bf M2.out.from_.lt (by simpa using fun e => M2.out.ne e.symm)).trans (B2.out.block bf (by have := HM0.out.from_.lt; omega))))
  have X3 := Lib.hid (X2.out.tu (Tu.gb (F := fun i => i = bi) g3 rfl) (fun e => by have := HM0.out.into.lt; omega))
  clear hm3 g3 hs3 HI1 HI2 M2 X2 B2 c0 x0 x1 x2 x3 x4
  obtain ⟨LF, K, f1, f2, f3⟩ := M3.out.from_
  obtain ⟨a, cap, e0, hr0, _⟩ := (f3.row r.src).shape
  have hlk : ∀ n, (Instr.lookup 174 (.map (some bf)) (.string (bs r.src)) false).run Tryz.prog (w3.drewN n) = .ok (.slice a (ofL L r.src).length cap) (w3.drewN n) := fun n => by
    have h := (show MapAt (w3.drewN n) bf LF from f1.same rfl).lookup Tryz.underlying174 Tryz.underlying9 (Tryz.zeroValue38 _) r.src false
    rw [h, f2, ← e0]; rfl
  have c1 := M3.out.cell.c1
  have x0 := X3.out.x0
  have x1 := X3.out.x1
  have HF1 := Lib.hid f1
  have HF2 := Lib.hid f2
  have HF3 := Lib.hid f3
  have HE0 := Lib.hid e0
  have HR0 := Lib.hid hr0
  obtain ⟨m, hm⟩ : ∃ m, (ofL L r.src).length = m := ⟨_, rfl⟩
  have HMl := Lib.hid hm
  rw [hm] at hlk hLen HE0 HR0
  clear f1 f2 f3 e0 hr0 hm
  go_quiet (fail)
  have hd4 : Below w3.heap.size w3 (w3.drewN nq) := gb_below_none ((show Drew w3 (w3.drewN nq) from ⟨nq, rfl⟩).gb none)
  generalize w3.drewN nq = W4 at *
  clear hlk c1 x0 x1
  obtain ⟨p, hp⟩ : ∃ p, atU (ofL L r.src) r.dst = p := ⟨_, rfl⟩
  have hpm : p ≤ m := by rw [← hp, ← HMl.out]; exact atU_le _ _
  have HSE := Lib.hid (fun W (hW : RuAt W a m cap (ofL L r.src)) => bsearch_x a m cap (ofL L r.src) r.dst W hW (by omega) hD.out p hp)
  rw [hp] at hS
  clear hp
  have X4 := Lib.hid (X3.out.keep hd4)
  have x1 := X4.out.x1
  have R4 := Lib.hid (HR0.out.keep hd4)
  go_wp2_with fail
  refine (HSE.out _ R4.out).mono ?_
  rintro e w5 ⟨fnd, rfl, b5⟩
  have B5 := Lib.hid (hd4.trans (b5.mono hd4.size))
  clear x1 X4 R4 HSE hd4 b5
  have X5 := Lib.hid (X3.out.keep B5.out)
  have x0 := X5.out.x0
  have x1 := X5.out.x1
  have x2 := X5.out.x2
  have x3 := X5.out.x3
  have x4 := X5.out.x4
  have c1 := (M3.out.keep B5.out).cell.c1
  have hB05 : B0 < w5.heap.size := X5.out.lt
  have B6 := Lib.hid (show Below w3.heap.size w3 (w5.alloc (.cells #[.string (bs r.src), .string (bs r.dst), .int .i64 r.kind, .int .i64 r.size, .int .i64 r.align] 32)).drew from (B5.out.alloc B5.out.size _).drew)
  have X6 := Lib.hid (show BoxU 32 (w5.alloc (.cells #[.string (bs r.src), .string (bs r.dst), .int .i64 r.kind, .int .i64 r.size, .int .i64 r.align] 32)).drew w5.heap.size r from BoxU.new 32 w5 r)
  have R6 := Lib.hid (show URow 32 (w5.alloc (.cells #[.string (bs r.src), .string (bs r.dst), .int .i64 r.kind, .int .i64 r.size, .int .i64 r.align] 32)).drew 0 (.slice a m cap) (ofL L r.src) from by
    have h := (HF3.out.row r.src).keep B6.out
    rw [HE0.out] at h
    exact h)
  have HOW := Lib.hid (show ∀ g, (Value.slice a m cap).ownBlock = some g → g < w3.heap.size ∧ g ≠ B0 ∧ g ≠ x ∧ g ≠ bf from fun g hg => by
    rw [← HE0.out] at hg
    obtain ⟨hf, h1, h2⟩ := M3.out.own_ne HF3.out hg
    refine ⟨M3.out.lt g hf, fun e => ?_, fun e => M3.out.nx (e ▸ hf), h2⟩
    have := HM0.out.lt g hf
    omega)
  have HIN := Lib.hid (gins_any (.slice a m cap) w5.heap.size p (ofL L r.src) r _ R6.out (by rw [HMl.out]; exact hpm) (by rw [HMl.out]; omega) X6.out (fun e => by
    have := (HOW.out _ e).1
    have := B5.out.size
    omega))
  have X6b := Lib.hid (X3.out.keep B6.out)
  have C6b := Lib.hid ((M3.out.keep B6.out).cell)
  go_wp2_with fail
  go_region_held3 (fun w' => w'.cell? ⟨x, 1, none⟩ = some (mp bf) ∧ w'.cell? ⟨B0, 0, none⟩ = some (.string (bs r.src)) ∧ w'.cell? ⟨B0, 1, none⟩ = some (.string (bs r.dst)) ∧ w'.cell? ⟨B0, 2, none⟩ = some (.int .i64 r.kind) ∧ w'.cell? ⟨B0, 3, none⟩ = some (.int .i64 r.size) ∧ w'.cell? ⟨B0, 4, none⟩ = some (.int .i64 r.align))
    (first
      | exact HE7.out
      | exact HE6.out
      | go_keep)
    (first
      | (go_at_call 233
         (with_reducible refine HIN.out.mono ?_)
         rintro e W6 ⟨v', rfl, r6, g6, n6⟩
         have HE6 := Lib.hid (cells_far X6b.out C6b.out g6 HOW.out)
         have HM6 := Lib.hid ((HF1.out.keep B6.out).gb g6 (fun e => (HOW.out _ e.symm).2.2.2 rfl))
         obtain ⟨w7, hrun7, hm7, g7, hs7⟩ := HM6.out.update (P := Tryz.prog) Tryz.underlying174 Tryz.underlying9 r.src v'
         have HE7 := Lib.hid (cells_map HE6.out g7 HM6.out.isMap))
      | fail)
  rw [← HE0.out] at g6 n6
  obtain ⟨e1, e2, e3⟩ := M3.out.putO HF2.out HF3.out B6.out g6 r6 n6 hm7 g7 (O' := ofL (insU r L)) (fun j => by
    by_cases hj : j = r.src
    · rw [if_pos hj, hj]; exact hS.out
    · rw [if_neg hj]; exact hO.out j hj)
  have E := Lib.hid (show GrTurn w w7 x bi bf F (FO F _ v') (insU r L) from
    ⟨⟨e1, hG.out, HFU3.out.ups HF1.out hm7 hO.out (by rw [hS.out]; simp)⟩, fun i hi => (e2 i hi).imp id (fun q => Nat.le_trans T3.out.size q), T3.out.trans e3 (fun _ _ f => f)⟩)
  clear HIN X6b C6b HE6 HE7 HM6 r6 g6 n6 hrun7 hm7 g7 hs7 e1 e2 e3 R6 X6 B6 c1 x0 x1 x2 x3 x4
  go_end0
  exact ⟨rfl, _, E.out⟩
end Go.Proofs.YtmifpfojhlmbkaaGreat
namespace Go.Proofs.YtmifpfojhlmbkaaGreat
set_option maxRecDepth 100000
set_option maxHeartbeats 16000000
open Go.RowKit
set_option linter.unusedVariables false
set_option linter.unusedSimpArgs false
theorem addE_is (L : List Ru) (r : Ru) : addEG L r = if decide (rightU r) = false then 1 else if (intoL L r.dst).isSome = true then 6 else if decide (ofL L r.dst ≠ []) = true then 10 else if (intoL L r.src).isSome = true then 10 else 0 := by
  unfold addEG
  by_cases h1 : rightU r <;> by_cases h2 : (intoL L r.dst).isSome = true <;> by_cases h3 : ofL L r.dst = [] <;> by_cases h4 : (intoL L r.src).isSome = true <;> simp [h1, h2, h3, h4]
theorem addU_no {L : List Ru} {r : Ru} (h : addEG L r ≠ 0) : addU L r = L := if_neg h
theorem addU_yes {L : List Ru} {r : Ru} (h : addEG L r = 0) : addU L r = insU r L := if_pos h
theorem gright_x (s d : Tx) (k n a : Int) (w : World) : Calls Tryz.prog 91 #[.agg #[.string (bs s), .string (bs d), .int .i64 k, .int .i64 n, .int .i64 a]] w fun e w' => e = .returned (.bool (decide (rightU ⟨s, d, k, n, a⟩))) ∧ Below w.heap.size w w' := gright_any ⟨s, d, k, n, a⟩ w
theorem gput_x (w : World) (x bi bf : Nat) (F : Nat → Prop) (L : List Ru) (s d : Tx) (k n a : Int) (h : GrAt w x bi bf F L) (hL : L.length ≤ 900) (hr : addEG L ⟨s, d, k, n, a⟩ = 0) :
    Calls Tryz.prog 165 #[.pointer (some ⟨x, 0, none⟩), .agg #[.string (bs s), .string (bs d), .int .i64 k, .int .i64 n, .int .i64 a]] w fun e w' => e = .returned (.tuple #[]) ∧ ∃ F', GrTurn w w' x bi bf F F' (insU ⟨s, d, k, n, a⟩ L) := gput_ok w x bi bf F L ⟨s, d, k, n, a⟩ h hL hr
def AddG (w : World) (x bi bf : Nat) (F : Nat → Prop) (L : List Ru) (r : Ru) (e : Ending) (w' : World) : Prop := e = .returned (.int .i64 (addEG L r)) ∧ ∃ F', GrTurn w w' x bi bf F F' (addU L r)
theorem gadd_ok (w : World) (x bi bf : Nat) (F : Nat → Prop) (L : List Ru) (r : Ru) (h : GrAt w x bi bf F L) (hL : L.length ≤ 900) :
    Calls Tryz.prog 93 #[.pointer (some ⟨x, 0, none⟩), ruV r] w (AddG w x bi bf F L r) := by
  obtain ⟨s, d, k, n, a⟩ := r
  unfold ruV
  show Calls Tryz.prog 93 #[.pointer (some ⟨x, 0, none⟩), .agg #[.string (bs s), .string (bs d), .int .i64 k, .int .i64 n, .int .i64 a]] w _
  have HE := Lib.hid (addE_is L ⟨s, d, k, n, a⟩)
  have B1 := (Below.refl w.heap.size w).alloc (Nat.le_refl _) (.cells #[.string (bs s), .string (bs d), .int .i64 k, .int .i64 n, .int .i64 a] 32)
  have X1 := BoxU.new 32 w ⟨s, d, k, n, a⟩
  have HC := Lib.hid (fun W (hW : GrCell W x bi bf) => gisNone_no W x bi bf hW)
  have HR := Lib.hid (fun W => gright_x s d k n a W)
  have HM := Lib.hid (fun W (h1 : GrCell W x bi bf) (h2 : IntoAt W bi (intoL L)) => isMade_ok W x bi bf (intoL L) d h1 h2)
  have HM2 := Lib.hid (fun W (h1 : GrCell W x bi bf) (h2 : IntoAt W bi (intoL L)) => isMade_ok W x bi bf (intoL L) s h1 h2)
  have HS := Lib.hid (fun W (h1 : GrCell W x bi bf) (h2 : FromAt W bf F (ofL L)) => isSource_ok W x bi bf F (ofL L) d h1 h2)
  have HP := Lib.hid (fun W (hW : GrAt W x bi bf F L) (h0 : addEG L ⟨s, d, k, n, a⟩ = 0) => gput_x W x bi bf F L s d k n a hW hL h0)
  have HG := Lib.hid h
  have G1 := Lib.hid (h.keep B1)
  simp only at HE
  generalize hb1 : decide (rightU ⟨s, d, k, n, a⟩) = b1 at *
  generalize hb2 : (intoL L d).isSome = b2 at *
  generalize hb3 : decide (ofL L d ≠ []) = b3 at *
  generalize hb4 : (intoL L s).isSome = b4 at *
  clear hb1 hb2 hb3 hb4 h hL
  go_enter Tryz.func93, Tryz.ntmps93
  go_wp2_with fail
  generalize hW1 : w.alloc (.cells #[.string (bs s), .string (bs d), .int .i64 k, .int .i64 n, .int .i64 a] 32) = W1 at *
  have HB1 := Lib.hid B1
  have HX1 := Lib.hid X1
  clear hW1 B1 X1
  refine (HC.out W1 G1.out.cell).mono ?_
  rintro e w' ⟨rfl, rfl⟩
  have x0 := HX1.out.x0
  have x1 := HX1.out.x1
  have x2 := HX1.out.x2
  have x3 := HX1.out.x3
  have x4 := HX1.out.x4
  simp only at x0 x1 x2 x3 x4
  generalize hB0 : w.heap.size = B0 at *
  go_wp2_with fail
  refine (HR.out W1).mono ?_
  rintro e W2 ⟨rfl, b2'⟩
  have HB2 := Lib.hid (HB1.out.trans (b2'.mono (by have := HB1.out.size; omega)))
  have G2 := Lib.hid (G1.out.keep b2')
  have HX2 := Lib.hid (HX1.out.keep b2')
  clear b2' HX1 G1 HB1 x0 x1 x2 x3 x4
  have x1 := HX2.out.x1
  simp only at x1
  cases b1
  · have E := Lib.hid (show addEG L ⟨s, d, k, n, a⟩ = 1 from HE.out)
    go_wp2
    go_ret
    unfold AddG; rw [E.out]; exact ⟨rfl, F, by rw [addU_no (by rw [E.out]; decide)]; exact ⟨G2.out, fun _ f => .inl f, .of (by rw [hB0]; exact HB2.out)⟩⟩
  go_wp2_with fail
  refine (HM.out W2 G2.out.cell G2.out.into).mono ?_
  rintro e W3 ⟨rfl, b3'⟩
  have HB3 := Lib.hid (HB2.out.trans (b3'.mono (by have := HB2.out.size; omega)))
  have G3 := Lib.hid (G2.out.keep b3')
  have HX3 := Lib.hid (HX2.out.keep b3')
  clear b3' HX2 G2 HB2 x1
  have x0 := HX3.out.x0
  have x1 := HX3.out.x1
  have x2 := HX3.out.x2
  have x3 := HX3.out.x3
  have x4 := HX3.out.x4
  simp only at x0 x1 x2 x3 x4
  cases b2
  case true =>
    have E := Lib.hid (show addEG L ⟨s, d, k, n, a⟩ = 6 from HE.out)
    go_wp2
    go_ret
    unfold AddG; rw [E.out]; exact ⟨rfl, F, by rw [addU_no (by rw [E.out]; decide)]; exact ⟨G3.out, fun _ f => .inl f, .of (by rw [hB0]; exact HB3.out)⟩⟩
  go_wp2_with fail
  refine (HS.out W3 G3.out.cell G3.out.from_).mono ?_
  rintro e w' ⟨rfl, rfl⟩
  cases b3
  case true =>
    have E := Lib.hid (show addEG L ⟨s, d, k, n, a⟩ = 10 from HE.out)
    go_wp2
    go_ret
    unfold AddG; rw [E.out]; exact ⟨rfl, F, by rw [addU_no (by rw [E.out]; decide)]; exact ⟨G3.out, fun _ f => .inl f, .of (by rw [hB0]; exact HB3.out)⟩⟩
  go_wp2_with fail
  refine (HM2.out W3 G3.out.cell G3.out.into).mono ?_
  rintro e W4 ⟨rfl, b4'⟩
  have HB4 := Lib.hid (HB3.out.trans (b4'.mono (by have := HB3.out.size; omega)))
  have G4 := Lib.hid (G3.out.keep b4')
  have HX4 := Lib.hid (HX3.out.keep b4')
  clear b4' HX3 G3 HB3 x0 x1 x2 x3 x4
  have x0 := HX4.out.x0
  have x1 := HX4.out.x1
  have x2 := HX4.out.x2
  have x3 := HX4.out.x3
  have x4 := HX4.out.x4
  simp only at x0 x1 x2 x3 x4
  cases b4
  case true =>
    have E := Lib.hid (show addEG L ⟨s, d, k, n, a⟩ = 10 from HE.out)
    go_wp2
    go_ret
    unfold AddG; rw [E.out]; exact ⟨rfl, F, by rw [addU_no (by rw [E.out]; decide)]; exact ⟨G4.out, fun _ f => .inl f, .of (by rw [hB0]; exact HB4.out)⟩⟩
  have E := Lib.hid (show addEG L ⟨s, d, k, n, a⟩ = 0 from HE.out)
  go_wp2_with fail
  refine (HP.out W4 G4.out E.out).mono ?_
  rintro e W5 ⟨rfl, F', T5⟩
  have HT := Lib.hid (T5.pre (by rw [hB0]; exact HB4.out))
  clear x0 x1 x2 x3 x4 T5
  go_wp2
  go_ret
  unfold AddG; rw [E.out]; exact ⟨rfl, F', by rw [addU_yes E.out]; exact HT.out⟩
end Go.Proofs.YtmifpfojhlmbkaaGreat
namespace Go.Proofs.YtmifpfojhlmbkaaGreat
set_option maxRecDepth 100000
set_option maxHeartbeats 16000000
open Go.RowKit Go.Shelf
set_option linter.unusedVariables false
set_option linter.unusedSimpArgs false
attribute [local go_sem] Oper.semAt_some
theorem walks_of_others {W W' : World} (h : KeepsOthers W W') : KeepsWalks W W' := ⟨h.size, fun k o e hw => h.same k o e (Obj.not_cells_of_walk hw)⟩
theorem ownFrom_walks {β : Type} {B : Nat} {w : World} (hB : w.heap.size ≤ B) : OwnFrom B (fun (_ : β) W => KeepsWalks w W) :=
  fun _ W W' row hs hg hr => ⟨Nat.le_trans hs.size hg.size, fun k o hk ho => (hg.block k (Nat.lt_of_lt_of_le (heap_lt hk) hs.size) (fun e => by
    have := (hr k e.symm).1
    have := heap_lt hk
    omega)).trans (hs.same k o hk ho)⟩
theorem appendSeq_any (gf : Nat) (lb : Array Value) (eg : ∀ args w, (callFunc gf args).run Tryz.prog w = .ok (.enter gf args) w) (S : List Tx → Prop) (N base : Nat) (a : Option Addr) (n0 c : Nat) (l0 : List Tx) (w : World)
    (hseq : SeqStopsK Fence.wide 2 Tryz.prog gf lb (fun x : Tx => #[.string (bs x)]) KeepsWalks S (fun _ => True) N w) (hN : n0 + N ≤ 1000000) (hn0 : l0.length = n0) (hrow : TRow w base (.slice a n0 c) l0) (hbase : base ≤ w.heap.size) :
    Calls Tryz.prog 194 #[.slice a n0 c, .func (.func gf) #[] lb] w fun e w' => ∃ v ss, e = .returned v ∧ S ss ∧ TRow w' base v (l0 ++ ss) ∧ Below base w w' ∧ KeepsWalks w w' := by
  obtain ⟨i0, hi, hz0, hz1, hz2⟩ := info_parts info_tx
  have hrow' : w.ownsRow base 9 1 (.slice a n0 c) n0 (l0.map tc) := by have h := hrow; unfold TRow at h; rw [hn0] at h; exact h
  have HN0 := Lib.hid hn0
  clear hrow hn0
  refine (callsIn_wide (n := 3)).1 ?_
  refine callsIn_of_wp_marks Tryz.func194 rfl trivial ?_ rfl
  simp only [Tryz.ntmps194, List.size_toArray, List.length_cons, List.length_nil, Nat.reduceAdd, Nat.reduceSub, Array.replicate_succ, Array.replicate_zero, List.push_toArray, List.append_toArray, List.nil_append, List.cons_append]
  gi_wp2
  have bO := Boxed.new w 49 (.slice a n0 c)
  have hB0 : Below w.heap.size w (w.alloc (.cells #[.slice a n0 c] 49)) := (Below.refl _ w).alloc (Nat.le_refl _) _
  refine wpIn_rangeFunc_ownF rfl (by omega) (gf := gf) (lb := lb) rfl trivial eg hseq walksK_t walksK_b hB0 (fun _ => rfl)
    (fun pre W => (∃ v, Boxed W w.heap.size 49 v ∧ W.ownsRow base 9 1 v (n0 + pre.length) ((l0 ++ pre).map tc) ∧ True) ∧ (Below base w W ∧ KeepsWalks w W))
    (fun _ _ _ => False)
    (OwnFrom.and (Own.from (holdsRow_own base w.heap.size 49 9 1 (fun pre => n0 + pre.length) (fun pre => (l0 ++ pre).map tc) (fun _ _ => True)) _) (OwnFrom.and (ownFrom_below hbase (by simp; omega)) (ownFrom_walks (by simp))))
    (fun _ _ _ _ _ hs _ _ => hs)
    ⟨⟨_, bO, by rw [List.append_nil]; exact World.ownsRow.alloc hrow' _, trivial⟩, hB0.mono hbase, KeepsWalks.alloc w _⟩
    (fun x => { tmps := #[.slice a n0 c, .func (.func gf) #[] lb, .pointer (some ⟨w.heap.size, 0, none⟩), undef, .slice none 0 0, .string (bs x), .func (.func gf) #[] lb, .string (bs x), undef, undef, undef, undef, undef], defers := [] }) ?assign ?body ?done ?stop
  case assign =>
    intro l x W K hK
    gi_wp2
    exact hK
  case body =>
    rintro l pre x W ⟨⟨v, hv, hrow, _⟩, hB, hkw⟩ hlt
    have hc := hv.cell
    have hll : n0 + pre.length < 1000000 := by omega
    have hsz := hB.size
    gi_wp2_with (gi_at_builtin; refine wpListIn_append_own _ rfl _ _ 49 rfl base 9 i0 _ 1 16 Tryz.underlying49 hi hz0 hz1 hz2 rfl (by decide) _ _ _ rfl (hrow.alloc _) ⟨W.heap.size, 0, none⟩ 1 1 [tc x] rfl rfl (cell_one_new _ _ _) (by simp [Value.oneCell', tc]) (by unfold maxLen; omega) (by omega) (by simp; omega) ?_; intro v' w1 hown' hgrow _; obtain ⟨g', cap', rfl⟩ := ownsRow_succ hown'; obtain ⟨hv1, hv2, hr2, hk2, hb2⟩ := hv.appended (by decide) hrow (by omega) hbase hown' hgrow; have hc1 := hv1.cell; have hf1 := hv1.frozen)
    refine ⟨hk2, walks_of_others hk2, ⟨_, hv2, ?_, trivial⟩, hB.trans hb2, hkw.trans (walks_of_others hk2)⟩
    have e : l0 ++ (pre ++ [x]) = (l0 ++ pre) ++ [x] := (List.append_assoc ..).symm
    rw [e, List.map_append, List.length_append]
    exact hr2
  case done =>
    rintro D ss W hD hS ⟨⟨v, hv, hrow, _⟩, hB, hkw⟩ hK
    have hc := hv.cell
    gi_wp2
    refine ⟨by simp, .inl ⟨_, _, rfl, run_takeDeferred hK, ?_⟩⟩
    refine ⟨_, results_tmp rfl _ _ _, v, ss, rfl, hS, by unfold TRow; rw [List.length_append, HN0.out]; exact ownsRow_putObj hrow _ hK rfl, hB.trans (belowK_b (w := w) hbase W D _ _ (by simp at hD; omega) hK rfl rfl), hkw.trans (KeepsWalks.putObj _ hK rfl)⟩
  case stop =>
    rintro D c pre W _ _ h _
    exact h.elim
theorem collect_any (gf : Nat) (lb : Array Value) (eg : ∀ args w, (callFunc gf args).run Tryz.prog w = .ok (.enter gf args) w) (S : List Tx → Prop) (N : Nat) (w : World)
    (hseq : SeqStopsK Fence.wide 2 Tryz.prog gf lb (fun x : Tx => #[.string (bs x)]) KeepsWalks S (fun _ => True) N w) (hN : N ≤ 1000000) :
    Calls Tryz.prog 116 #[.func (.func gf) #[] lb] w fun e w' => ∃ a c ss, e = .returned (.slice a ss.length c) ∧ S ss ∧ TxAt w' a ss.length c ss ∧ Below w.heap.size w w' := by
  have HA := Lib.hid (appendSeq_any gf lb eg S N w.heap.size none 0 0 [] w hseq (by omega) rfl (TRow.nil _ _) (Nat.le_refl _))
  clear hseq
  go_enter Tryz.func116, Tryz.ntmps116
  go_wp2_with fail
  refine HA.out.mono ?_
  rintro e w1 ⟨v, ss, rfl, hS, R1, b1, _⟩
  rw [List.nil_append] at R1
  obtain ⟨a1, c1, rfl, t1⟩ := R1.shape
  have T1 := Lib.hid t1
  have B1 := Lib.hid b1
  have HS := Lib.hid hS
  clear R1 t1 b1 hS HA
  generalize hq : ss.length = q at *
  have HQ := Lib.hid hq
  clear hq
  go_wp2
  go_ret
  exact ⟨a1, c1, ss, by rw [HQ.out]; rfl, HS.out, by rw [HQ.out]; exact T1.out, B1.out⟩
end Go.Proofs.YtmifpfojhlmbkaaGreat
namespace Go.Proofs.YtmifpfojhlmbkaaGreat
set_option maxRecDepth 100000
set_option maxHeartbeats 16000000
open Go.RowKit Go.Shelf
set_option linter.unusedVariables false
set_option linter.unusedSimpArgs false
attribute [local go_sem] Oper.semAt_some
theorem keysR_in (m : Nat) (hn : 1 ≤ m) (l Bm b : Nat) (L : List (Tx × Value)) (J Jx : List Tx → World → Prop)
    (hY : ∀ pre x W, J pre W → pre.length < L.length → YieldAt Fence.wide (m - 1) Tryz.prog l #[.string (bs x)] W fun e W' =>
      (e = .returned (.bool true) ∧ J (pre ++ [x]) W' ∧ KeepsWalks W W') ∨ (e = .returned (.bool false) ∧ Jx (pre ++ [x]) W'))
    (W : World) (hJ : AbidesFrom W.heap.size J) (hm : W.cell? ⟨Bm, 0, none⟩ = some (.map (some b))) (hL : MapAt W b L) (h0 : J [] W) :
    CallsIn Fence.wide m Tryz.prog 195 #[.func (.yield l) #[] #[], .pointer (some ⟨Bm, 0, none⟩)] W fun e W' => (∃ v, e = .returned v) ∧
      ((∃ ss : List Tx, ss.Perm (keysL L) ∧ J ss W') ∨ (∃ pre : List Tx, True ∧ Jx pre W')) := by
  refine callsIn_of_wp Tryz.func195 rfl trivial ?_ rfl
  simp only [Tryz.ntmps195, List.size_toArray, List.length_cons, List.length_nil, Nat.reduceAdd, Nat.reduceSub, Array.replicate_succ, Array.replicate_zero, List.push_toArray, List.append_toArray, List.nil_append, List.cons_append]
  gi_wp2_with (first
    | (gi_at_range; refine wpListIn_range_m _ rfl _ 174 rfl 9 38 Tryz.underlying174 b L rfl hL ?_; intro w0 hr0 hg0 hs0)
    | gi_in)
  go_frame
  gi_loopw [3] (fun _ wr => ∃ (left : List (Tx × Value)) (ss : List Tx), RngAt wr b W.heap.size L left ∧ (ss ++ keysL left).Perm (keysL L) ∧ J ss wr) (fun _ wr => wr.rangeLeft b W.heap.size)
  case atStart =>
    exact ⟨L, [], hr0, List.Perm.refl _, hJ [] W w0 none h0 hg0 (fun r e => by cases e)⟩
  case round =>
    obtain ⟨left, ss, hrg, hC, hJs⟩ := hrel
    have hlen : ss.length + left.length = L.length := by have := hC.length_eq; simp [keysL] at this; exact this
    gi_wp2_with (first
      | (gi_at_next; refine wpListIn_next_m _ rfl _ rfl b W.heap.size L left rfl hrg ?_ ?_)
      | gi_in)
    · intro h0
      subst h0
      gi_wp2
      go_end0
      exact ⟨⟨_, rfl⟩, .inl ⟨ss, by simpa [keysL] using hC, hJs⟩⟩
    · intro k v left' w2 hp hrg2 hg2 hs2 hen
      have hJ2 : J ss w2 := hJ ss wr w2 (some W.heap.size) hJs hg2 (fun r e => by cases e; exact ⟨Nat.le_refl _, hrg.walk⟩)
      have hll : left.length = left'.length + 1 := by rw [hp.length_eq]; rfl
      have hC2 : (ss ++ [k] ++ keysL left').Perm (keysL L) := by
        have h1 : (keysL left).Perm (k :: keysL left') := hp.map Prod.fst
        rw [List.append_assoc]
        exact (h1.symm.append_left ss).trans hC
      obtain ⟨fn, tmps, assign, body, hy, hR⟩ := hY ss k w2 hJ2 (by omega)
      clear hs2 hp
      gi_wp2
      refine hR.mono ?_
      rintro e W3 (⟨rfl, hJ3, hk3⟩ | ⟨rfl, hJx3⟩)
      · gi_wp2
        have hrg3 := hrg2.of_walks hk3
        go_roundw
        case rel => exact ⟨left', ss ++ [k], hrg3, hC2, hJ3⟩
        case measure => rw [hrg3.left_eq, hrg.left_eq]; omega
      · gi_wp2
        refine bodyPost_ret (results_none rfl _ _ _) rfl ?_
        exact ⟨⟨_, rfl⟩, .inr ⟨ss ++ [k], trivial, hJx3⟩⟩
theorem keysR_stops (m : Nat) (hn : 1 ≤ m) (Bm b : Nat) (L : List (Tx × Value)) (w : World) (hBm : Bm < w.heap.size) (hm : w.cell? ⟨Bm, 0, none⟩ = some (.map (some b))) (hL : MapAt w b L) :
    SeqStopsK Fence.wide m Tryz.prog 195 #[.pointer (some ⟨Bm, 0, none⟩)] (fun x : Tx => #[.string (bs x)]) KeepsWalks (fun ss => ss.Perm (keysL L)) (fun _ => True) L.length w := fun l J Jx W hW hJ _ hY h0 =>
  keysR_in m hn l Bm b L J Jx hY W hJ ((hW.cell (p := ⟨Bm, 0, none⟩) hBm).trans hm) (hL.keep hW) h0
theorem keysR_call (mb : Option Nat) (w : World) :
    Calls Tryz.prog 117 #[.map mb] w fun e w' => e = .returned (.func (.func 195) #[] #[.pointer (some ⟨w.heap.size, 0, none⟩)]) ∧ w' = w.alloc (.cells #[.map mb] 174) := by
  go_enter Tryz.func117, Tryz.ntmps117
  go_wp2
  go_ret
  exact ⟨rfl, rfl⟩
end Go.Proofs.YtmifpfojhlmbkaaGreat
